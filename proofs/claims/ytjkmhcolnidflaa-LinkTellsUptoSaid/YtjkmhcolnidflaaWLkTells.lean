/- LinkTells: links are read as the document says, for any. -/
import Derived.Test.YtjkmhcolnidflaaLkSame
import Derived.Test.YtjkmhcolnidflaaLkMade
import Derived.Test.YtjkmhcolnidflaaTapeText
import Derived.Test.YtjkmhcolnidflaaBit64
namespace Go.Proofs.Ytjkmhcolnidflaa
open Go.RowKit

set_option maxHeartbeats 8000000 in
set_option maxRecDepth 100000 in
theorem lktells_any (l : List UInt8) (at_ : Int) (ks : List UInt8) (A : Option Addr) (c : Nat) (xs : List Int) (A1 : Option Addr) (c1 : Nat) (w : World)
    (h : Row w w.heap.size 1 A ks.length (bcells ks)) (h1 : Row w w.heap.size 1 A1 xs.length (icells xs)) (hc1 : xs.length ≤ c1) (hl : l.length ≤ 500000000) (hk : ks.length ≤ 9223372036854775807) (hx : xs.length ≤ 9223372036854775807) :
    Calls Try.prog 4 #[.string (bs l), .int .i64 at_, .slice A ks.length c, .slice A1 xs.length c1] w fun e w' => e = .returned (.bool true) ∧ Below w.heap.size w w' := by
  have hT := tapeNew w xs A1 c1 h1 hc1 hx
  have hbA := ext_alloc w (.cells #[.slice A1 xs.length c1, .int .i64 0] 30)
  have hzA : (w.alloc (.cells #[.slice A1 xs.length c1, .int .i64 0] 30)).heap.size = w.heap.size + 1 := by simp
  have hm := fun w' h => words_any w' w.heap.size h 24 (by omega) 24 rfl
  obtain ⟨a31, h31, g31⟩ : ∃ m : Nat, bits .and .i64 at_ 31 = (m : Int) ∧ m ≤ 31 := ⟨(at_ % 32).toNat, by rw [i64_and31]; omega, by omega⟩
  obtain ⟨a63, h63', g63⟩ : ∃ m : Nat, bits .and .i64 at_ 63 = (m : Int) ∧ m ≤ 63 := ⟨(at_ % 64).toNat, by rw [i64_and63]; omega, by omega⟩
  have hR := Lib.hid h
  replace hbA := Lib.hid hbA
  replace hm := Lib.hid hm
  replace hT := Lib.hid hT
  clear h h1
  go_enter Try.func4, Try.ntmps4
  go_wp2_with fail
  generalize w.alloc (.cells #[.slice A1 xs.length c1, .int .i64 0] 30) = wa at hT hbA hzA ⊢
  refine (hm.out wa hT.out).mono ?_
  rintro e w1 ⟨s, rfl, hs, _, hb1⟩
  have hb1' := Lib.hid (hbA.out.trans hb1.1)
  clear hb1 hbA hm hT
  have hRx : ∀ wz, Below w.heap.size w wz → Row wz wz.heap.size 1 A ks.length (bcells ks) := fun wz hz => hR.out.ext hz
  replace hRx := Lib.hid hRx
  have hmk := Lib.hid (fun w h => made_fn ks A c w h hk)
  have ht3 := md_all ks
  obtain ⟨M, hMM⟩ : ∃ T, T = md 24 ks := ⟨_, rfl⟩
  rw [← hMM] at hmk ht3
  clear hMM
  obtain ⟨M1, hM1⟩ : ∃ T : List UInt8, T = [91] ++ M := ⟨_, rfl⟩
  obtain ⟨M2, hM2⟩ : ∃ T, T = M1 ++ [93] := ⟨_, rfl⟩
  obtain ⟨L1, hL1⟩ : ∃ T : List UInt8, T = [40] ++ l := ⟨_, rfl⟩
  obtain ⟨S1, hS1⟩ : ∃ T : List UInt8, T = [91] ++ s := ⟨_, rfl⟩
  obtain ⟨S2, hS2⟩ : ∃ T, T = S1 ++ [93] := ⟨_, rfl⟩
  have e1 : (⟨#[91]⟩ : ByteArray) ++ bs M = bs M1 := by rw [hM1]; exact bs_append [91] M
  have e2 : bs M1 ++ (⟨#[93]⟩ : ByteArray) = bs M2 := by rw [hM2]; exact bs_append M1 [93]
  have e3 : (⟨#[40]⟩ : ByteArray) ++ bs l = bs L1 := by rw [hL1]; exact bs_append [40] l
  have e4 : (⟨#[91]⟩ : ByteArray) ++ bs s = bs S1 := by rw [hS1]; exact bs_append [91] s
  have e5 : bs S1 ++ (⟨#[93]⟩ : ByteArray) = bs S2 := by rw [hS2]; exact bs_append S1 [93]
  have l1 : M1.length = M.length + 1 := by rw [hM1]; simp
  have l2 : M2.length = M.length + 2 := by rw [hM2]; simp [l1]
  have l3 : L1.length = l.length + 1 := by rw [hL1]; simp
  have l4 : S1.length = s.length + 1 := by rw [hS1]; simp
  have l5 : S2.length = s.length + 2 := by rw [hS2]; simp [l4]
  have z0 := bs_size l
  have z1 := bs_size s
  have z2 := bs_size M
  have z3 := bs_size M1
  have z4 := bs_size S1
  clear hM1 hM2 hL1 hS1 hS2
  go_wp2_with fail
  refine (lksame_any l at_ (by omega) _).mono ?_
  rintro e w2 ⟨rfl, hb2⟩
  replace hb2 := Lib.hid (ext_trans hb1'.out hb2)
  go_wp2_with fail
  refine (hmk.out _ (hRx.out _ hb2.out)).mono ?_
  rintro e w3 ⟨rfl, hb3⟩
  replace hb3 := Lib.hid (ext_trans hb2.out hb3)
  go_wp2_with fail
  refine (lksame_any M _ (by omega) _).mono ?_
  rintro e w4 ⟨rfl, hb4⟩
  replace hb4 := Lib.hid (ext_trans hb3.out hb4)
  go_wp2_with fail
  refine (hmk.out _ (hRx.out _ hb4.out)).mono ?_
  rintro e w5 ⟨rfl, hb5⟩
  replace hb5 := Lib.hid (ext_trans hb4.out hb5)
  go_wp2_with fail
  refine (lksame_any M2 0 (by omega) _).mono ?_
  rintro e w6 ⟨rfl, hb6⟩
  replace hb6 := Lib.hid (ext_trans hb5.out hb6)
  go_wp2_with fail
  refine (lksame_any L1 0 (by omega) _).mono ?_
  rintro e w7 ⟨rfl, hb7⟩
  replace hb7 := Lib.hid (ext_trans hb6.out hb7)
  go_wp2_with fail
  refine (lksame_any s _ (by omega) _).mono ?_
  rintro e w8 ⟨rfl, hb8⟩
  replace hb8 := Lib.hid (ext_trans hb7.out hb8)
  go_wp2_with fail
  refine (lksame_any S2 0 (by omega) _).mono ?_
  rintro e w9 ⟨rfl, hb9⟩
  replace hb9 := Lib.hid (ext_trans hb8.out hb9)
  go_wp2_with fail
  refine (lkknown_any _).mono ?_
  rintro e w10 ⟨rfl, hb10⟩
  replace hb10 := Lib.hid (ext_trans hb9.out hb10)
  go_wp2_with fail
  go_ret
  exact ⟨rfl, hb10.out⟩

theorem lktells_small (l : List UInt8) (at_ : Int) (ks : List UInt8) (A : Option Addr) (c : Nat) (xs : List Int) (A1 : Option Addr) (c1 : Nat) (w : World) (_hx : -9223372036854775808 ≤ at_ ∧ at_ ≤ 9223372036854775807)
    (h : Row w w.heap.size 1 A ks.length (bcells ks)) (_hc : ks.length ≤ c) (h1 : Row w w.heap.size 1 A1 xs.length (icells xs)) (hc1 : xs.length ≤ c1) (hk : l.length + ks.length + xs.length ≤ 1048576) :
    Calls Try.prog 4 #[.string (bs l), .int .i64 at_, .slice A ks.length c, .slice A1 xs.length c1] w fun e w' => e = .returned (.bool true) ∧ Below w.heap.size w w' :=
  lktells_any l at_ ks A c xs A1 c1 w h h1 hc1 (by omega) (by omega) (by omega)
end Go.Proofs.Ytjkmhcolnidflaa
