/- Package runes: the kinds of runes, by the program and by the document's own answer: one contract each, for every number of 32 bits. -/
import Derived.Test.YtjkmhcolnidflaaRows
import Derived.WalkKit
import Derived.WalkSpells
import Derived.WalkLawsBesides
import Derived.Lib.Hide
import Derived.Handy
namespace Go.Proofs.Ytjkmhcolnidflaa
open Go.RowKit

def betB (r a b : Int) : Bool := decide (a ≤ r ∧ r ≤ b)
def blankB (r : Int) : Bool := decide ((9 ≤ r ∧ r ≤ 13) ∨ r = 32 ∨ r = 160 ∨ r = 8195 ∨ r = 12288)
def asciiB (r : Int) : Bool := decide ((33 ≤ r ∧ r ≤ 47) ∨ (58 ≤ r ∧ r ≤ 64) ∨ (91 ≤ r ∧ r ≤ 96) ∨ (123 ≤ r ∧ r ≤ 126))
def punctB (r : Int) : Bool := decide (((33 ≤ r ∧ r ≤ 47) ∨ (58 ≤ r ∧ r ≤ 64) ∨ (91 ≤ r ∧ r ≤ 96) ∨ (123 ≤ r ∧ r ≤ 126)) ∨ r = 161 ∨ r = 167 ∨ (8208 ≤ r ∧ r ≤ 8231) ∨ r = 12289 ∨ r = 12290)
def letterB (r : Int) : Bool := decide ((97 ≤ r ∧ r ≤ 122) ∨ (65 ≤ r ∧ r ≤ 90) ∨ (192 ≤ r ∧ r ≠ 65533 ∧ ¬ (r = 8195 ∨ r = 12288) ∧ ¬ ((8208 ≤ r ∧ r ≤ 8231) ∨ r = 12289 ∨ r = 12290)))
def smallR (r : Int) : Int := if 65 ≤ r ∧ r ≤ 90 then r + 32 else r

theorem ret_bool {a b : Bool} (h : a = b) : Ending.returned (.bool a) = .returned (.bool b) := by rw [h]

set_option maxHeartbeats 1000000 in
theorem between_any (r a b : Int) (w : World) :
    Calls Try.prog 61 #[.int .i32 r, .int .i32 a, .int .i32 b] w fun e w' => e = .returned (.bool (betB r a b)) ∧ w = w' := by
  go_enter Try.func61, Try.ntmps61
  go_wp2
  all_goals go_ret
  all_goals (refine ⟨ret_bool ?_, rfl⟩; (try simp only [beq_iff_eq, beq_eq_false_iff_ne, ne_eq] at *); rw [Bool.eq_iff_iff]; simp [betB]; try omega)

set_option maxHeartbeats 1000000 in
theorem blank_any (r : Int) (w : World) :
    Calls Try.prog 29 #[.int .i32 r] w fun e w' => e = .returned (.bool (blankB r)) ∧ w = w' := by
  go_enter Try.func29, Try.ntmps29
  go_wp2
  all_goals go_ret
  all_goals (refine ⟨ret_bool ?_, rfl⟩; (try simp only [beq_iff_eq, beq_eq_false_iff_ne, ne_eq] at *); rw [Bool.eq_iff_iff]; simp [blankB]; try omega)

set_option maxHeartbeats 1000000 in
theorem rblank_any (r : Int) (w : World) :
    Calls Try.prog 13 #[.int .i32 r] w fun e w' => e = .returned (.bool (blankB r)) ∧ w = w' := by
  go_enter Try.func13, Try.ntmps13
  go_wp2
  all_goals go_ret
  all_goals (refine ⟨ret_bool ?_, rfl⟩; (try simp only [beq_iff_eq, beq_eq_false_iff_ne, ne_eq] at *); rw [Bool.eq_iff_iff]; simp [blankB]; try omega)

set_option maxHeartbeats 1000000 in
theorem rascii_any (r : Int) (w : World) :
    Calls Try.prog 14 #[.int .i32 r] w fun e w' => e = .returned (.bool (asciiB r)) ∧ w = w' := by
  go_enter Try.func14, Try.ntmps14
  go_wp2
  all_goals go_ret
  all_goals (refine ⟨ret_bool ?_, rfl⟩; (try simp only [beq_iff_eq, beq_eq_false_iff_ne, ne_eq] at *); rw [Bool.eq_iff_iff]; simp [asciiB]; try omega)

set_option maxHeartbeats 1000000 in
theorem punct_any (r : Int) (w : World) :
    Calls Try.prog 52 #[.int .i32 r] w fun e w' => e = .returned (.bool (punctB r)) ∧ w = w' := by
  go_enter Try.func52, Try.ntmps52
  go_wp2_with (first | (go_at_call 61; refine (between_any _ _ _ _).mono ?_; rintro e w' ⟨rfl, rfl⟩))
  all_goals go_ret
  all_goals (refine ⟨ret_bool ?_, rfl⟩; (try simp only [beq_iff_eq, beq_eq_false_iff_ne, ne_eq] at *); rw [Bool.eq_iff_iff]; simp_all [punctB, betB]; try omega)

theorem ret_i32 {a b : Int} (h : a = b) : Ending.returned (.int .i32 a) = .returned (.int .i32 b) := by rw [h]

set_option maxHeartbeats 1000000 in
theorem small_any (r : Int) (w : World) (h0 : -2147483648 ≤ r) (h1 : r ≤ 2147483647) :
    Calls Try.prog 60 #[.int .i32 r] w fun e w' => e = .returned (.int .i32 (smallR r)) ∧ w = w' := by
  go_enter Try.func60, Try.ntmps60
  by_cases h : 65 ≤ r ∧ r ≤ 90
  · obtain ⟨h2, h3⟩ := h
    have hb : betB r 65 90 = true := by simp [betB]; omega
    go_wp2_with (go_at_call 61; refine (between_any _ _ _ _).mono ?_; rintro e w' ⟨rfl, rfl⟩)
    go_ret
    exact ⟨ret_i32 (by unfold smallR; rw [if_pos (by omega)]; omega), rfl⟩
  · have hb : betB r 65 90 = false := by simp [betB]; omega
    go_wp2_with (go_at_call 61; refine (between_any _ _ _ _).mono ?_; rintro e w' ⟨rfl, rfl⟩)
    go_ret
    exact ⟨ret_i32 (by unfold smallR; rw [if_neg h]), rfl⟩

end Go.Proofs.Ytjkmhcolnidflaa
