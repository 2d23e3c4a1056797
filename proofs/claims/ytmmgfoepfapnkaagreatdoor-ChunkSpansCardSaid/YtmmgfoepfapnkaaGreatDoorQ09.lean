/- Package fence and the document's own answer: one contract for each function that counts signs or cuts a text. -/
import Derived.Test.YtmmgfoepfapnkaaGreatDoorQ02
import Derived.Deep.CutBlock
import Derived.Deep.QuietTactic
import Derived.BigQuiet
namespace Go.Proofs.YtmmgfoepfapnkaaGreatDoor
open Go.RowKit

theorem runs_end {c : UInt8} {l : List UInt8} {k : Nat} (h : Hid (k + Fn.run c (l.drop k) = Fn.run c l)) (h0 : Fn.run c (l.drop k) = 0) : k = Fn.run c l := by
  have := h.out; omega

set_option maxHeartbeats 1000000 in
theorem run_any (l : List UInt8) (c : UInt8) (w : World) (hl : l.length ≤ 140737488355328) :
    Calls Tryz.prog 174 #[.string (bs l), .int .u8 (c.toNat : Int)] w fun e w' => e = .returned (.int .i64 (Fn.run c l : Nat)) ∧ w = w' := by
  have hsz := bs_size l
  go_enter Tryz.func174, Tryz.ntmps174
  go_wp2_with fail
  go_loop [5] (fun u => ∃ k : Nat, k ≤ l.length ∧ u = .int .i64 k ∧ Hid (k + Fn.run c (l.drop k) = Fn.run c l)) (fun u => l.length - (intOf u).toNat)
  case atStart => exact ⟨0, by omega, rfl, Lib.hid (by simp)⟩
  case round =>
    obtain ⟨k, hk, rfl, hf⟩ := hrel
    rcases Nat.lt_or_eq_of_le hk with hlt | rfl
    · have hx := run_byte hlt w
      by_cases hc : l[k] = c
      · have ht := byte_same hc
        have hf2 : Hid (k + 1 + Fn.run c (l.drop (k + 1)) = Fn.run c l) := Lib.hid (by have := hf.out; rw [Fn.run_at hlt hc] at this; omega)
        clear hc
        go_wp2
        go_round
        case rel => exact ⟨k + 1, by omega, by go_num, hf2⟩
        case measure => simp [intOf]; omega
      · have ht := byte_diff hc
        have hfin := Lib.hid (runs_end hf (Fn.run_no hlt hc))
        clear hc
        go_wp2
        go_returns
        exact ⟨by rw [← hfin.out]; rfl, rfl⟩
    · have hfin := Lib.hid (runs_end hf (Fn.run_end (by omega)))
      go_wp2
      go_returns
      exact ⟨by rw [← hfin.out]; rfl, rfl⟩

set_option maxHeartbeats 1000000 in
theorem inner_any (l : List UInt8) (w : World) (hl : l.length ≤ 140737488355328) :
    Calls Tryz.prog 173 #[.string (bs l)] w fun e w' => e = .returned (.tuple #[.int .i64 (Fn.cl l : Nat), .string (bs (Fn.rs l)), .bool (decide ((Fn.cl l : Int) ≤ 3))]) ∧ Below w.heap.size w w' := by
  have hle := Cl.lead_le Cl.inf l 0
  have hi := fun w => indent_any l w hl
  have hcl : Fn.cl l = (Cl.lead Cl.inf l 0).1 := rfl
  have hrs : Fn.rs l = l.drop (Cl.lead Cl.inf l 0).2 := rfl
  rw [hcl, hrs]
  clear hcl hrs
  obtain ⟨C, K, hCK⟩ : ∃ C K, Cl.lead Cl.inf l 0 = (C, K) := ⟨_, _, rfl⟩
  rw [hCK] at hle hi
  rw [hCK]
  simp only at hle hi ⊢
  clear hCK
  have hsl := run_from (S := l) (i := K) (by omega)
  go_enter Tryz.func173, Tryz.ntmps173
  go_wp2_with (go_at_call 193; refine (hi _).mono ?_; rintro e w' ⟨rfl, rfl⟩)
  go_quiet (fail)
  go_wp2
  go_ret3
  exact ⟨rfl, below_drewN (Below.refl _ _) _⟩

end Go.Proofs.YtmmgfoepfapnkaaGreatDoor
