/- The document's own count of signs in a row. -/
import Derived.Test.YtjkmhcolnidflaaFnMath
import Derived.Test.YtjkmhcolnidflaaByt
namespace Go.Proofs.Ytjkmhcolnidflaa
open Go.RowKit

theorem max_cast (m n : Nat) : Value.int .i64 (if m < n then (n : Int) else (m : Int)) = .int .i64 ((max m n : Nat) : Int) := by
  congr 1; split <;> omega

theorem runs_end2 {c : UInt8} {l : List UInt8} {a k : Nat} (h : Hid (k + Fn.run c (l.drop (a + k)) = Fn.run c (l.drop a))) (h0 : Fn.run c (l.drop (a + k)) = 0) : k = Fn.run c (l.drop a) := by
  have := h.out; omega

set_option maxHeartbeats 1000000 in
set_option maxRecDepth 100000 in
theorem rrun_any (l : List UInt8) (a : Nat) (c : UInt8) (w : World) (hl : l.length ≤ 140737488355328) (ha : a ≤ l.length) :
    Calls Try.prog 34 #[.string (bs l), .int .i64 (a : Int), .int .u8 (c.toNat : Int)] w fun e w' => e = .returned (.int .i64 (Fn.run c (l.drop a) : Nat)) ∧ w = w' := by
  have hsz := bs_size l
  go_enter Try.func34, Try.ntmps34
  go_wp2_with fail
  go_loop [7] (fun u => ∃ k : Nat, a + k ≤ l.length ∧ u = .int .i64 k ∧ Hid (k + Fn.run c (l.drop (a + k)) = Fn.run c (l.drop a))) (fun u => l.length - (intOf u).toNat)
  case atStart => exact ⟨0, by omega, rfl, Lib.hid (by simp)⟩
  case round =>
    obtain ⟨k, hk, rfl, hf⟩ := hrel
    by_cases hlt : a + k < l.length
    · have hx := run_byte hlt w
      rw [Int.natCast_add] at hx
      by_cases hc : l[a + k] = c
      · have ht := byte_same hc
        have hf2 : Hid (k + 1 + Fn.run c (l.drop (a + (k + 1))) = Fn.run c (l.drop a)) := Lib.hid (by have := hf.out; rw [Fn.run_at hlt hc] at this; rw [← Nat.add_assoc a]; omega)
        clear hc
        go_wp2
        go_round
        case rel => exact ⟨k + 1, by omega, by go_num, hf2⟩
        case measure => simp [intOf]; omega
      · have ht := byte_diff hc
        have hfin := Lib.hid (runs_end2 hf (Fn.run_no hlt hc))
        clear hc
        go_wp2
        go_returns
        exact ⟨by rw [← hfin.out]; rfl, rfl⟩
    · have hfin := Lib.hid (runs_end2 hf (Fn.run_end hlt))
      go_wp2
      go_returns
      exact ⟨by rw [← hfin.out]; rfl, rfl⟩
end Go.Proofs.Ytjkmhcolnidflaa
