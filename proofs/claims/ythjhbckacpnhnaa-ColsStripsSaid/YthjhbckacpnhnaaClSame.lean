/- The program's answers and the document's own are the same; the closed runs of the chapter. -/
import Derived.Test.YthjhbckacpnhnaaClStrip
namespace Go.Proofs.Ythjhbckacpnhnaa
open Go.RowKit

set_option maxHeartbeats 4000000 in
set_option maxRecDepth 100000 in
theorem same_any (l : List UInt8) (n : Int) (w : World) (hl : l.length + 3 ≤ 140737488355328) :
    Calls Try.prog 7 #[.string (bs l), .int .i64 n] w fun e w' => e = .returned (.bool true) ∧ Below w.heap.size w w' := by
  have c1 := fun w => indent_any l w (by omega)
  have c2 := fun w => rindent_any l w (by omega)
  have c3 := fun w => strip_any l n w hl
  have c4 := fun w => rstrip_any l n w hl
  have c5 := fun w => empty_any l w (by omega)
  have c6 := fun w => rempty_any l w (by omega)
  have c7 := fun w => width_any l w (by omega)
  have c8 := fun w => rwidth_any l w (by omega)
  obtain ⟨C, hC⟩ : ∃ C, (Cl.lead Cl.inf l 0).1 = C := ⟨_, rfl⟩
  obtain ⟨K, hK⟩ : ∃ K, (Cl.lead Cl.inf l 0).2 = K := ⟨_, rfl⟩
  obtain ⟨S, hS⟩ : ∃ S, Cl.strip n l = S := ⟨_, rfl⟩
  obtain ⟨W, hW⟩ : ∃ W, Cl.width l 0 = W := ⟨_, rfl⟩
  obtain ⟨E, hE⟩ : ∃ E, decide (K = l.length) = E := ⟨_, rfl⟩
  have hSS := bs_eq (rfl : S = S)
  rw [hK] at c1 c2 c5 c6
  rw [hC] at c1 c2
  rw [hS] at c3 c4
  rw [hE] at c5 c6
  rw [hW] at c7 c8
  clear hC hK hS hW hE
  go_enter Try.func7, Try.ntmps7
  go_wp2_with (first | (go_at_call 10; refine (c1 _).mono ?_; rintro e w1 ⟨rfl, rfl⟩) | (go_at_call 14; refine (c2 _).mono ?_; rintro e w2 ⟨rfl, rfl⟩) | (go_at_call 11; refine (c3 _).mono ?_; rintro e w3 ⟨rfl, hb3⟩; replace hb3 := Lib.hid hb3) | (go_at_call 15; refine (c4 _).mono ?_; rintro e w4 ⟨rfl, rfl⟩) | (go_at_call 13; refine (c5 _).mono ?_; rintro e w5 ⟨rfl, rfl⟩) | (go_at_call 16; refine (c6 _).mono ?_; rintro e w6 ⟨rfl, rfl⟩) | (go_at_call 12; refine (c7 _).mono ?_; rintro e w7 ⟨rfl, rfl⟩) | (go_at_call 17; refine (c8 _).mono ?_; rintro e w8 ⟨rfl, rfl⟩))
  go_ret
  exact ⟨by simp, hb3.out⟩

theorem strip_at (l : List UInt8) (n : Int) (s r : ByteArray) (hs : bs l = s) (h : bs (Cl.strip n l) = r) (hl : l.length + 3 ≤ 140737488355328) (w : World) :
    Calls Try.prog 11 #[.string s, .int .i64 n] w fun e w' => e = .returned (.string r) ∧ Below w.heap.size w w' := by
  subst hs h; exact strip_any l n w hl
theorem indent_at (l : List UInt8) (s : ByteArray) (v : Value) (hs : bs l = s) (h : Value.tuple #[.int .i64 ((Cl.lead Cl.inf l 0).1 : Nat), .int .i64 ((Cl.lead Cl.inf l 0).2 : Nat)] = v) (hl : l.length ≤ 140737488355328) (w : World) :
    Calls Try.prog 10 #[.string s] w fun e w' => e = .returned v ∧ w = w' := by
  subst hs h; exact indent_any l w hl
theorem empty_at (l : List UInt8) (s : ByteArray) (b : Bool) (hs : bs l = s) (h : decide ((Cl.lead Cl.inf l 0).2 = l.length) = b) (hl : l.length ≤ 140737488355328) (w : World) :
    Calls Try.prog 13 #[.string s] w fun e w' => e = .returned (.bool b) ∧ w = w' := by
  subst hs h; exact empty_any l w hl
theorem width_at (l : List UInt8) (s : ByteArray) (v : Value) (hs : bs l = s) (h : Value.int .i64 (Cl.width l 0 : Nat) = v) (hl : l.length ≤ 140737488355328) (w : World) :
    Calls Try.prog 12 #[.string s] w fun e w' => e = .returned v ∧ w = w' := by
  subst hs h; exact width_any l w hl

set_option maxHeartbeats 4000000 in
set_option maxRecDepth 100000 in
theorem known_any (w : World) :
    Calls Try.prog 8 #[] w fun e w' => e = .returned (.bool true) ∧ Below w.heap.size w w' := by
  have k1 := indent_at [32, 9, 97] ⟨#[32, 9, 97]⟩ (.tuple #[.int .i64 4, .int .i64 2]) rfl (by rw [show Cl.lead Cl.inf [32, 9, 97] 0 = (4, 2) from by decide +kernel]; rfl) (by decide)
  have k2 := strip_at [9] 1 ⟨#[9]⟩ ⟨#[32, 32, 32]⟩ rfl (by decide +kernel) (by decide)
  have k3 := strip_at [97] 5 ⟨#[97]⟩ ⟨#[97]⟩ rfl (by decide +kernel) (by decide)
  have k4 := strip_at [32, 32, 9, 97] 3 ⟨#[32, 32, 9, 97]⟩ ⟨#[32, 97]⟩ rfl (by decide +kernel) (by decide)
  have k5 := empty_at [32, 9] ⟨#[32, 9]⟩ true rfl (by decide +kernel) (by decide)
  have k6 := empty_at [97] ⟨#[97]⟩ false rfl (by decide +kernel) (by decide)
  have k7 := width_at [97, 9, 98] ⟨#[97, 9, 98]⟩ (.int .i64 5) rfl (by rw [show Cl.width [97, 9, 98] 0 = 5 from by decide +kernel]; rfl) (by decide)
  have k8 := strip_at [32, 97] (-1) ⟨#[32, 97]⟩ ⟨#[32, 97]⟩ rfl (by decide +kernel) (by decide)
  go_enter Try.func8, Try.ntmps8
  go_wp2_with fail
  refine (k1 _).mono ?_
  rintro e w1 ⟨rfl, rfl⟩
  go_wp2_with fail
  refine (k2 _).mono ?_
  rintro e w2 ⟨rfl, hb2⟩
  replace hb2 := Lib.hid hb2
  go_wp2_with fail
  refine (k3 _).mono ?_
  rintro e w3 ⟨rfl, hb3⟩
  replace hb3 := Lib.hid (ext_trans hb2.out hb3)
  go_wp2_with fail
  refine (k4 _).mono ?_
  rintro e w4 ⟨rfl, hb4⟩
  replace hb4 := Lib.hid (ext_trans hb3.out hb4)
  go_wp2_with fail
  refine (k5 _).mono ?_
  rintro e w1 ⟨rfl, rfl⟩
  go_wp2_with fail
  refine (k6 _).mono ?_
  rintro e w1 ⟨rfl, rfl⟩
  go_wp2_with fail
  refine (k7 _).mono ?_
  rintro e w1 ⟨rfl, rfl⟩
  go_wp2_with fail
  refine (k8 _).mono ?_
  rintro e w5 ⟨rfl, hb5⟩
  replace hb5 := Lib.hid (ext_trans hb4.out hb5)
  go_wp2
  go_ret
  exact ⟨rfl, hb5.out⟩
end Go.Proofs.Ythjhbckacpnhnaa
