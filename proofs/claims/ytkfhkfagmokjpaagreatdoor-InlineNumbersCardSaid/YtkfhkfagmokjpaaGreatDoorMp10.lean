/- A tape of numbers: a text of its words; a tape that is made of a row of numbers. -/
import Derived.Test.YtkfhkfagmokjpaaGreatDoorMp09
import Derived.Test.YtkfhkfagmokjpaaGreatDoorMp07
namespace Go.Proofs.YtkfhkfagmokjpaaGreatDoor
open Go.RowKit
attribute [local go_sem] canOp readsAs readUpon

theorem tapeNew (w : World) (xs : List Int) (A : Option Addr) (c : Nat) (h : Row w w.heap.size 1 A xs.length (icells xs)) (hc : xs.length ≤ c) (hl : xs.length ≤ 9223372036854775807) :
    TapeAt (w.alloc (.cells #[.slice A xs.length c, .int .i64 0] 29)) w.heap.size :=
  ⟨A, xs.length, c, 0, xs, heap_alloc_new w _, by omega, hc, hl, h.below (ext_alloc w _)⟩

set_option maxHeartbeats 4000000 in
set_option maxRecDepth 100000 in
theorem words_any (w : World) (g : Nat) (h : TapeAt w g) (most : Nat) (hm : most ≤ 1000) (M : Int) (hM : M = (most : Int)) :
    Calls Tryz.prog 8 #[.pointer (some ⟨g, 0, none⟩), .int .i64 M] w fun e w' => ∃ s : List UInt8, e = .returned (.string (bs s)) ∧ s.length ≤ most * 7 ∧ TapeAt w' g ∧ Aside g w w' := by
  subst hM
  go_enter Tryz.func8, Tryz.ntmps8
  go_wp2_with fail
  refine (next_of w g h (most + 1) (by omega) ((most : Int) + 1) (by omega)).mono ?_
  rintro e w2 ⟨n, rfl, hn, hT2, hA2⟩
  replace hT2 := Lib.hid hT2
  replace hA2 := Lib.hid hA2
  have hnm : n ≤ most := by omega
  clear hn
  go_wp2_with fail
  go_loopw [5, 6] (fun v nv wr => ∃ (k : Nat) (l : List UInt8), nv = .int .i64 (k : Int) ∧ k ≤ most ∧ l.length + k * 7 ≤ most * 7 ∧ v = .string (bs l) ∧ Hid (TapeAt wr g) ∧ Hid (Aside g w wr)) (fun _ nv _ => (intOf nv).toNat)
  case atStart => exact ⟨n, [], rfl, hnm, by simp; omega, rfl, hT2, hA2⟩
  case round =>
    obtain ⟨k, l, rfl, hk, hl, rfl, hT, hA⟩ := hrel
    have hls := bs_size l
    rcases Nat.eq_zero_or_pos k with rfl | hkp
    · go_wp2_with fail
      go_ret
      exact ⟨l, rfl, by omega, hT.out, hA.out⟩
    · have hk0 : (0 : Int) < (k : Int) := by omega
      go_wp2_with fail
      refine (word_any wr g hT.out).mono ?_
      rintro e w3 ⟨s1, rfl, hs1, hT3, hA3⟩
      have hN := fun l t hl ha => next_lit w3 g hT3 l t 1 4 hl (by omega) (by omega) ha 4 rfl
      replace hN := Lib.hid hN
      replace hA3 := Lib.hid (hA.out.trans hA3)
      clear hT3
      go_wp2_with fail
      refine (hN.out _ _ (by kernel_rfl) (by kernel_rfl)).mono ?_
      rintro e w4 ⟨r, s2, rfl, hr, hc, hs2, hT4, hA4⟩
      replace hA4 := Lib.hid (hA3.out.trans hA4)
      replace hT4 := Lib.hid hT4
      clear hN hA3
      have c1 := bs_append s1 s2
      have c2 := bs_append l (s1 ++ s2)
      have z1 := bs_size s1
      have z2 := bs_size s2
      have z3 := bs_size (s1 ++ s2)
      have z4 : (s1 ++ s2).length = s1.length + s2.length := List.length_append
      have hr0 : (0 : Int) ≤ (r : Int) := by omega
      have hr1 : (r : Int) < 4 := by omega
      go_wp2_with fail
      go_roundw
      case rel => exact ⟨k - 1, l ++ (s1 ++ s2), congrArg (Value.int .i64) (by omega), by omega, by simp; omega, rfl, hT4, hA4⟩
      case measure => simp [intOf]; omega
end Go.Proofs.YtkfhkfagmokjpaaGreatDoor
