/- Package cols and the document's own answer: one contract for each function that reads a text. -/
import Derived.Test.YtkhaijcaeoclaaaDoorByt
namespace Go.Proofs.YtkhaijcaeoclaaaDoor
open Go.RowKit

theorem tab_col (c : Nat) : (c : Int) - (c : Int).tmod 4 + 4 = (Cl.step c 9 : Nat) ∧ (c : Int) + 4 - (c : Int).tmod 4 = (Cl.step c 9 : Nat) := by
  rw [Cl.step_tab, Int.tmod_eq_emod_of_nonneg (by omega)]
  have : c % 4 < 4 := Nat.mod_lt _ (by omega)
  omega

theorem step_tab_int (c : Nat) : (c : Int) - (c : Int) % 4 + 4 = (Cl.step c 9 : Nat) ∧ (c : Int) + 4 - (c : Int) % 4 = (Cl.step c 9 : Nat) := by
  rw [Cl.step_tab]
  have : c % 4 < 4 := Nat.mod_lt _ (by omega)
  omega

set_option maxHeartbeats 1000000 in
theorem after_any (c : Nat) (b : UInt8) (w : World) (hc : c ≤ 1000000000000000) :
    Calls Tryd.prog 57 #[.int .i64 c, .int .u8 (b.toNat : Int)] w fun e w' => e = .returned (.int .i64 (Cl.step c b : Nat)) ∧ w = w' := by
  by_cases h : b = 9
  · subst h
    have ht := (step_tab_int c).1
    go_enter Tryd.func57, Tryd.ntmps57
    go_wp2
    go_ret
    refine ⟨?_, rfl⟩
    rw [← ht]; rfl
  · have ht := byte_ne (n := 9) (by omega) h
    have hs := Cl.step_one c h
    clear h
    go_enter Tryd.func57, Tryd.ntmps57
    go_wp2
    go_ret
    refine ⟨?_, rfl⟩
    rw [hs]; rfl

set_option maxHeartbeats 1000000 in
theorem rstep_any (c : Nat) (b : UInt8) (w : World) (hc : c ≤ 1000000000000000) :
    Calls Tryd.prog 51 #[.int .i64 c, .int .u8 (b.toNat : Int)] w fun e w' => e = .returned (.int .i64 (Cl.step c b : Nat)) ∧ w = w' := by
  by_cases h : b = 9
  · subst h
    have ht := (step_tab_int c).2
    go_enter Tryd.func51, Tryd.ntmps51
    go_wp2
    go_ret
    refine ⟨?_, rfl⟩
    rw [← ht]; rfl
  · have ht := byte_ne (n := 9) (by omega) h
    have hs := Cl.step_one c h
    clear h
    go_enter Tryd.func51, Tryd.ntmps51
    go_wp2
    go_ret
    refine ⟨?_, rfl⟩
    rw [hs]; rfl

set_option maxHeartbeats 1000000 in
theorem gap_any (b : UInt8) (w : World) :
    Calls Tryd.prog 50 #[.int .u8 (b.toNat : Int)] w fun e w' => e = .returned (.bool (Cl.isGap b)) ∧ w = w' := by
  rcases gap_tests b with ⟨h1, h3⟩ | ⟨h1, h2, h3⟩ | ⟨h1, h2, h3⟩
  all_goals
    go_enter Tryd.func50, Tryd.ntmps50
    go_wp2
    go_ret
    exact ⟨by rw [h3]; rfl, rfl⟩

theorem ret_two {p : Nat × Nat} {c k : Nat} (h : Hid ((c, k) = p)) : Ending.returned (.tuple #[.int .i64 (c : Int), .int .i64 (k : Int)]) = .returned (.tuple #[.int .i64 (p.1 : Nat), .int .i64 (p.2 : Nat)]) := by
  rw [← h.out]

set_option maxHeartbeats 1000000 in
theorem lead_any (l : List UInt8) (n : Int) (w : World) (hl : l.length ≤ 140737488355328) :
    Calls Tryd.prog 45 #[.string (bs l), .int .i64 n] w fun e w' => e = .returned (.tuple #[.int .i64 ((Cl.lead n l 0).1 : Nat), .int .i64 ((Cl.lead n l 0).2 : Nat)]) ∧ w = w' := by
  have hsz := bs_size l
  go_enter Tryd.func45, Tryd.ntmps45
  go_wp2_with fail
  go_loop [6, 7] (fun v u => ∃ c k : Nat, k ≤ l.length ∧ c ≤ 4 * k ∧ v = .int .i64 c ∧ u = .int .i64 k ∧ Hid (Cl.fin n l k c = Cl.lead n l 0)) (fun v u => l.length - (intOf u).toNat)
  case atStart => exact ⟨0, 0, by omega, by omega, rfl, rfl, Lib.hid (Cl.fin_zero n l)⟩
  case round =>
    obtain ⟨c, k, hk, hck, rfl, rfl, hf⟩ := hrel
    by_cases hc : (c : Int) < n
    · rcases Nat.lt_or_eq_of_le hk with hlt | rfl
      · have hx := run_byte hlt w
        have hst := Cl.step_le c l[k]
        rcases gap_tests l[k] with ⟨h1, h3⟩ | ⟨h1, h2, h3⟩ | ⟨h1, h2, h3⟩
        · have hf2 := Lib.hid ((Cl.fin_step hlt hc h3).trans hf.out)
          go_wp2_with (go_at_call 57; refine (after_any c l[k] _ (by omega)).mono ?_; rintro e w' ⟨rfl, rfl⟩)
          go_round
          case rel => exact ⟨Cl.step c l[k], k + 1, by omega, by omega, rfl, by go_num, hf2⟩
          case measure => simp [intOf]; omega
        · have hf2 := Lib.hid ((Cl.fin_step hlt hc h3).trans hf.out)
          go_wp2_with (go_at_call 57; refine (after_any c l[k] _ (by omega)).mono ?_; rintro e w' ⟨rfl, rfl⟩)
          go_round
          case rel => exact ⟨Cl.step c l[k], k + 1, by omega, by omega, rfl, by go_num, hf2⟩
          case measure => simp [intOf]; omega
        · have hfin := Lib.hid ((Cl.fin_word hlt h3).symm.trans hf.out)
          go_wp2
          go_returns
          exact ⟨ret_two hfin, rfl⟩
      · have hfin := Lib.hid ((Cl.fin_end (by omega)).symm.trans hf.out)
        go_wp2
        go_returns
        exact ⟨ret_two hfin, rfl⟩
    · have hfin := Lib.hid ((Cl.fin_full l hc).symm.trans hf.out)
      go_wp2
      go_returns
      exact ⟨ret_two hfin, rfl⟩

set_option maxHeartbeats 1000000 in
theorem indent_any (l : List UInt8) (w : World) (hl : l.length ≤ 140737488355328) :
    Calls Tryd.prog 34 #[.string (bs l)] w fun e w' => e = .returned (.tuple #[.int .i64 ((Cl.lead Cl.inf l 0).1 : Nat), .int .i64 ((Cl.lead Cl.inf l 0).2 : Nat)]) ∧ w = w' := by
  go_enter Tryd.func34, Tryd.ntmps34
  go_wp2_with (go_at_call 45; refine (lead_any l Cl.inf _ hl).mono ?_; rintro e w' ⟨rfl, rfl⟩)
  go_ret2
  exact ⟨rfl, rfl⟩

set_option maxHeartbeats 1000000 in
theorem rindent_any (l : List UInt8) (w : World) (hl : l.length ≤ 140737488355328) :
    Calls Tryd.prog 28 #[.string (bs l)] w fun e w' => e = .returned (.tuple #[.int .i64 ((Cl.lead Cl.inf l 0).1 : Nat), .int .i64 ((Cl.lead Cl.inf l 0).2 : Nat)]) ∧ w = w' := by
  have hsz := bs_size l
  go_enter Tryd.func28, Tryd.ntmps28
  go_wp2_with fail
  go_loop [4, 5] (fun v u => ∃ c k : Nat, k ≤ l.length ∧ c ≤ 4 * k ∧ v = .int .i64 c ∧ u = .int .i64 k ∧ Hid (Cl.fin Cl.inf l k c = Cl.lead Cl.inf l 0)) (fun v u => l.length - (intOf u).toNat)
  case atStart => exact ⟨0, 0, by omega, by omega, rfl, rfl, Lib.hid (Cl.fin_zero _ l)⟩
  case round =>
    obtain ⟨c, k, hk, hck, rfl, rfl, hf⟩ := hrel
    rcases Nat.lt_or_eq_of_le hk with hlt | rfl
    · have hx := run_byte hlt w
      have hst := Cl.step_le c l[k]
      have hg := gap_any l[k]
      by_cases h3 : Cl.isGap l[k] = true
      · have hf2 := Lib.hid ((Cl.fin_step hlt (by unfold Cl.inf; omega) h3).trans hf.out)
        rw [h3] at hg
        go_wp2_with (first | (go_at_call 50; refine (hg _).mono ?_; rintro e w' ⟨rfl, rfl⟩) | (go_at_call 51; refine (rstep_any c l[k] _ (by omega)).mono ?_; rintro e w' ⟨rfl, rfl⟩))
        go_round
        case rel => exact ⟨Cl.step c l[k], k + 1, by omega, by omega, rfl, by go_num, hf2⟩
        case measure => simp [intOf]; omega
      · have hfin := Lib.hid ((Cl.fin_word hlt (by simpa using h3)).symm.trans hf.out)
        rw [show Cl.isGap l[k] = false from by simpa using h3] at hg
        go_wp2_with (go_at_call 50; refine (hg _).mono ?_; rintro e w' ⟨rfl, rfl⟩)
        go_returns
        exact ⟨ret_two hfin, rfl⟩
    · have hfin := Lib.hid ((Cl.fin_end (by omega)).symm.trans hf.out)
      go_wp2
      go_returns
      exact ⟨ret_two hfin, rfl⟩

theorem ret_same {p q : Nat} : Ending.returned (.bool (((p : Nat) : Int) == (q : Int))) = .returned (.bool (decide (p = q))) := by
  congr 2; rw [Bool.eq_iff_iff]; simp; omega

set_option maxHeartbeats 1000000 in
theorem empty_any (l : List UInt8) (w : World) (hl : l.length ≤ 140737488355328) :
    Calls Tryd.prog 49 #[.string (bs l)] w fun e w' => e = .returned (.bool (decide ((Cl.lead Cl.inf l 0).2 = l.length))) ∧ w = w' := by
  have hsz := bs_size l
  go_enter Tryd.func49, Tryd.ntmps49
  go_wp2_with (go_at_call 45; refine (lead_any l Cl.inf _ hl).mono ?_; rintro e w' ⟨rfl, rfl⟩)
  go_ret
  exact ⟨ret_same, rfl⟩

set_option maxHeartbeats 1000000 in
theorem rempty_any (l : List UInt8) (w : World) (hl : l.length ≤ 140737488355328) :
    Calls Tryd.prog 33 #[.string (bs l)] w fun e w' => e = .returned (.bool (decide ((Cl.lead Cl.inf l 0).2 = l.length))) ∧ w = w' := by
  have hsz := bs_size l
  go_enter Tryd.func33, Tryd.ntmps33
  go_wp2_with (go_at_call 28; refine (rindent_any l _ hl).mono ?_; rintro e w' ⟨rfl, rfl⟩)
  go_ret
  exact ⟨ret_same, rfl⟩
end Go.Proofs.YtkhaijcaeoclaaaDoor
