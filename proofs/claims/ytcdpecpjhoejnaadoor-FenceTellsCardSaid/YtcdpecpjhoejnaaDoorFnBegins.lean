/- Package fence: the line that begins a fence. -/
import Derived.Test.YtcdpecpjhoejnaaDoorFnLib
namespace Go.Proofs.YtcdpecpjhoejnaaDoor
open Go.RowKit

theorem first_byte (c : UInt8) (r : List UInt8) (w : World) :
    (Instr.index 9 (.string (bs (c :: r))) (.int .i64 0)).run Tryd.prog w = .ok (.int .u8 (c.toNat : Int)) w := run_byte (S := c :: r) (i := 0) (by simp) w

set_option maxHeartbeats 1000000 in
theorem begins_few (l : List UInt8) (C n : Nat) (c : UInt8) (r I : List UInt8) (w : World) (hn : Hid (Fn.begins l = none))
    (hi : ∀ w, Calls Tryd.prog 17 #[.string (bs l)] w fun e w' => e = .returned (.tuple #[.int .i64 (C : Int), .string (bs (c :: r)), .bool true]) ∧ Below w.heap.size w w')
    (hrun : ∀ w, Calls Tryd.prog 18 #[.string (bs (c :: r)), .int .u8 (c.toNat : Int)] w fun e w' => e = .returned (.int .i64 (n : Int)) ∧ w = w')
    (hrl : n ≤ (c :: r).length)
    (htr : ∀ w, Calls Tryd.prog 24 #[.string (bs ((c :: r).drop n)), .string ⟨#[32, 9]⟩] w fun e w' => e = .returned (.string (bs I)) ∧ Below w.heap.size w w')
    (h3 : n < 3) (hc : c = 96 ∨ c = 126) :
    Calls Tryd.prog 14 #[.string (bs l)] w fun e w' => e = .returned (begv (Fn.begins l)) ∧ Below w.heap.size w w' := by
  have hx := first_byte c r
  have ht := text_cons c r
  have hsl := run_from (S := c :: r) (i := n) hrl
  have hc2 : (((c.toNat : Int) != 96) = false) ∨ ((((c.toNat : Int) != 96) = true) ∧ (((c.toNat : Int) != 126) = false)) := by
    rcases hc with rfl | rfl
    · exact .inl rfl
    · exact .inr ⟨rfl, rfl⟩
  clear hc
  rcases hc2 with hc2 | ⟨hc1, hc2⟩
  all_goals
    go_enter Tryd.func14, Tryd.ntmps14
    go_wp2_with fail
    refine (hi _).mono ?_
    rintro e w1 ⟨rfl, hb1⟩
    replace hb1 := Lib.hid hb1
    go_wp2_with fail
    refine (hrun _).mono ?_
    rintro e w' ⟨rfl, rfl⟩
    go_wp2_with fail
    refine (htr _).mono ?_
    rintro e w2 ⟨rfl, hb2⟩
    replace hb2 := Lib.hid (ext_trans hb1.out hb2)
    obtain ⟨k0, k1, k2, k3, k4⟩ := blk_open hb2.out
    go_wp2
    exact bodyPost_ret (v := begv none) (by rw [results_cell_tmp rfl]; go_simp; rfl) rfl ⟨by rw [hn.out], blk_done hb2.out _ _ _ _⟩
set_option maxHeartbeats 1000000 in
theorem begins_quoted (l : List UInt8) (C n : Nat) (r I : List UInt8) (w : World) (hn : Hid (Fn.begins l = none))
    (hi : ∀ w, Calls Tryd.prog 17 #[.string (bs l)] w fun e w' => e = .returned (.tuple #[.int .i64 (C : Int), .string (bs (96 :: r)), .bool true]) ∧ Below w.heap.size w w')
    (hrun : ∀ w, Calls Tryd.prog 18 #[.string (bs (96 :: r)), .int .u8 96] w fun e w' => e = .returned (.int .i64 (n : Int)) ∧ w = w')
    (hrl : n ≤ (96 :: r).length)
    (htr : ∀ w, Calls Tryd.prog 24 #[.string (bs ((96 :: r).drop n)), .string ⟨#[32, 9]⟩] w fun e w' => e = .returned (.string (bs I)) ∧ Below w.heap.size w w')
    (hcn : ∀ w, Calls Tryd.prog 25 #[.string (bs I), .string ⟨#[96]⟩] w fun e w' => e = .returned (.bool true) ∧ w' = w)
    (h3 : ¬ n < 3) :
    Calls Tryd.prog 14 #[.string (bs l)] w fun e w' => e = .returned (begv (Fn.begins l)) ∧ Below w.heap.size w w' := by
  have hx := first_byte 96 r
  have ht := text_cons 96 r
  have hsl := run_from (S := 96 :: r) (i := n) hrl
  go_enter Tryd.func14, Tryd.ntmps14
  go_wp2_with fail
  refine (hi _).mono ?_
  rintro e w1 ⟨rfl, hb1⟩
  replace hb1 := Lib.hid hb1
  go_wp2_with fail
  refine (hrun _).mono ?_
  rintro e w' ⟨rfl, rfl⟩
  go_wp2_with fail
  refine (htr _).mono ?_
  rintro e w2 ⟨rfl, hb2⟩
  replace hb2 := Lib.hid (ext_trans hb1.out hb2)
  go_wp2_with fail
  refine (hcn _).mono ?_
  rintro e w' ⟨rfl, rfl⟩
  obtain ⟨k0, k1, k2, k3, k4⟩ := blk_open hb2.out
  go_wp2
  exact bodyPost_ret (v := begv none) (by rw [results_cell_tmp rfl]; go_simp; rfl) rfl ⟨by rw [hn.out], blk_done hb2.out _ _ _ _⟩

set_option maxHeartbeats 1000000 in
theorem begins_ticks (l : List UInt8) (C n : Nat) (r I : List UInt8) (w : World) (hn : Hid (Fn.begins l = some ⟨96, n, C, I⟩))
    (hi : ∀ w, Calls Tryd.prog 17 #[.string (bs l)] w fun e w' => e = .returned (.tuple #[.int .i64 (C : Int), .string (bs (96 :: r)), .bool true]) ∧ Below w.heap.size w w')
    (hrun : ∀ w, Calls Tryd.prog 18 #[.string (bs (96 :: r)), .int .u8 96] w fun e w' => e = .returned (.int .i64 (n : Int)) ∧ w = w')
    (hrl : n ≤ (96 :: r).length)
    (htr : ∀ w, Calls Tryd.prog 24 #[.string (bs ((96 :: r).drop n)), .string ⟨#[32, 9]⟩] w fun e w' => e = .returned (.string (bs I)) ∧ Below w.heap.size w w')
    (hcn : ∀ w, Calls Tryd.prog 25 #[.string (bs I), .string ⟨#[96]⟩] w fun e w' => e = .returned (.bool false) ∧ w' = w)
    (hcl : ∀ w, Calls Tryd.prog 26 #[.string (bs I)] w fun e w' => e = .returned (.string (bs I)) ∧ Below w.heap.size w w')
    (h3 : ¬ n < 3) :
    Calls Tryd.prog 14 #[.string (bs l)] w fun e w' => e = .returned (begv (Fn.begins l)) ∧ Below w.heap.size w w' := by
  have hx := first_byte 96 r
  have ht := text_cons 96 r
  have hsl := run_from (S := 96 :: r) (i := n) hrl
  go_enter Tryd.func14, Tryd.ntmps14
  go_wp2_with fail
  refine (hi _).mono ?_
  rintro e w1 ⟨rfl, hb1⟩
  replace hb1 := Lib.hid hb1
  go_wp2_with fail
  refine (hrun _).mono ?_
  rintro e w' ⟨rfl, rfl⟩
  go_wp2_with fail
  refine (htr _).mono ?_
  rintro e w2 ⟨rfl, hb2⟩
  replace hb2 := Lib.hid (ext_trans hb1.out hb2)
  go_wp2_with fail
  refine (hcn _).mono ?_
  rintro e w' ⟨rfl, rfl⟩
  go_wp2_with fail
  refine (hcl _).mono ?_
  rintro e w3 ⟨rfl, hb3⟩
  replace hb3 := Lib.hid (ext_trans hb2.out hb3)
  obtain ⟨k0, k1, k2, k3, k4⟩ := blk_open hb3.out
  go_wp2
  exact bodyPost_ret (v := begv (some ⟨96, n, C, I⟩)) (by rw [results_cell_tmp rfl]; go_simp; rfl) rfl ⟨by rw [hn.out], blk_done hb3.out _ _ _ _⟩

set_option maxHeartbeats 1000000 in
theorem begins_tildes (l : List UInt8) (C n : Nat) (r I : List UInt8) (w : World) (hn : Hid (Fn.begins l = some ⟨126, n, C, I⟩))
    (hi : ∀ w, Calls Tryd.prog 17 #[.string (bs l)] w fun e w' => e = .returned (.tuple #[.int .i64 (C : Int), .string (bs (126 :: r)), .bool true]) ∧ Below w.heap.size w w')
    (hrun : ∀ w, Calls Tryd.prog 18 #[.string (bs (126 :: r)), .int .u8 126] w fun e w' => e = .returned (.int .i64 (n : Int)) ∧ w = w')
    (hrl : n ≤ (126 :: r).length)
    (htr : ∀ w, Calls Tryd.prog 24 #[.string (bs ((126 :: r).drop n)), .string ⟨#[32, 9]⟩] w fun e w' => e = .returned (.string (bs I)) ∧ Below w.heap.size w w')
    (hcl : ∀ w, Calls Tryd.prog 26 #[.string (bs I)] w fun e w' => e = .returned (.string (bs I)) ∧ Below w.heap.size w w')
    (h3 : ¬ n < 3) :
    Calls Tryd.prog 14 #[.string (bs l)] w fun e w' => e = .returned (begv (Fn.begins l)) ∧ Below w.heap.size w w' := by
  have hx := first_byte 126 r
  have ht := text_cons 126 r
  have hsl := run_from (S := 126 :: r) (i := n) hrl
  go_enter Tryd.func14, Tryd.ntmps14
  go_wp2_with fail
  refine (hi _).mono ?_
  rintro e w1 ⟨rfl, hb1⟩
  replace hb1 := Lib.hid hb1
  go_wp2_with fail
  refine (hrun _).mono ?_
  rintro e w' ⟨rfl, rfl⟩
  go_wp2_with fail
  refine (htr _).mono ?_
  rintro e w2 ⟨rfl, hb2⟩
  replace hb2 := Lib.hid (ext_trans hb1.out hb2)
  go_wp2_with fail
  refine (hcl _).mono ?_
  rintro e w3 ⟨rfl, hb3⟩
  replace hb3 := Lib.hid (ext_trans hb2.out hb3)
  obtain ⟨k0, k1, k2, k3, k4⟩ := blk_open hb3.out
  go_wp2
  exact bodyPost_ret (v := begv (some ⟨126, n, C, I⟩)) (by rw [results_cell_tmp rfl]; go_simp; rfl) rfl ⟨by rw [hn.out], blk_done hb3.out _ _ _ _⟩

set_option maxHeartbeats 1000000 in
theorem begins_other (l : List UInt8) (C : Nat) (c : UInt8) (r : List UInt8) (w : World) (hn : Hid (Fn.begins l = none))
    (hi : ∀ w, Calls Tryd.prog 17 #[.string (bs l)] w fun e w' => e = .returned (.tuple #[.int .i64 (C : Int), .string (bs (c :: r)), .bool true]) ∧ Below w.heap.size w w')
    (hc : ¬ (c = 96 ∨ c = 126)) :
    Calls Tryd.prog 14 #[.string (bs l)] w fun e w' => e = .returned (begv (Fn.begins l)) ∧ Below w.heap.size w w' := by
  have hx := first_byte c r
  have ht := text_cons c r
  have hc1 : ((c.toNat : Int) != 96) = true := by have := byte_ne (n := 96) (by omega) (fun h => hc (.inl h)); simpa using this
  have hc2 : ((c.toNat : Int) != 126) = true := by have := byte_ne (n := 126) (by omega) (fun h => hc (.inr h)); simpa using this
  clear hc
  go_enter Tryd.func14, Tryd.ntmps14
  go_wp2_with fail
  refine (hi _).mono ?_
  rintro e w1 ⟨rfl, hb1⟩
  replace hb1 := Lib.hid hb1
  obtain ⟨k0, k1, k2, k3, k4⟩ := blk_open hb1.out
  go_wp2
  exact bodyPost_ret (v := begv none) (by rw [results_cell_tmp rfl]; go_simp; rfl) rfl ⟨by rw [hn.out], blk_done hb1.out _ _ _ _⟩

set_option maxHeartbeats 1000000 in
theorem begins_empty (l : List UInt8) (C : Nat) (w : World) (hn : Hid (Fn.begins l = none))
    (hi : ∀ w, Calls Tryd.prog 17 #[.string (bs l)] w fun e w' => e = .returned (.tuple #[.int .i64 (C : Int), .string (bs ([])), .bool true]) ∧ Below w.heap.size w w') :
    Calls Tryd.prog 14 #[.string (bs l)] w fun e w' => e = .returned (begv (Fn.begins l)) ∧ Below w.heap.size w w' := by
  have ht := text_nil
  go_enter Tryd.func14, Tryd.ntmps14
  go_wp2_with fail
  refine (hi _).mono ?_
  rintro e w1 ⟨rfl, hb1⟩
  replace hb1 := Lib.hid hb1
  obtain ⟨k0, k1, k2, k3, k4⟩ := blk_open hb1.out
  go_wp2
  exact bodyPost_ret (v := begv none) (by rw [results_cell_tmp rfl]; go_simp; rfl) rfl ⟨by rw [hn.out], blk_done hb1.out _ _ _ _⟩

set_option maxHeartbeats 1000000 in
theorem begins_far (l : List UInt8) (C : Nat) (r : List UInt8) (w : World) (hn : Hid (Fn.begins l = none))
    (hi : ∀ w, Calls Tryd.prog 17 #[.string (bs l)] w fun e w' => e = .returned (.tuple #[.int .i64 (C : Int), .string (bs (r)), .bool false]) ∧ Below w.heap.size w w') :
    Calls Tryd.prog 14 #[.string (bs l)] w fun e w' => e = .returned (begv (Fn.begins l)) ∧ Below w.heap.size w w' := by
  go_enter Tryd.func14, Tryd.ntmps14
  go_wp2_with fail
  refine (hi _).mono ?_
  rintro e w1 ⟨rfl, hb1⟩
  replace hb1 := Lib.hid hb1
  obtain ⟨k0, k1, k2, k3, k4⟩ := blk_open hb1.out
  go_wp2
  exact bodyPost_ret (v := begv none) (by rw [results_cell_tmp rfl]; go_simp; rfl) rfl ⟨by rw [hn.out], blk_done hb1.out _ _ _ _⟩

theorem begins_any (l : List UInt8) (w : World) (hl : l.length ≤ 140737488355328) :
    Calls Tryd.prog 14 #[.string (bs l)] w fun e w' => e = .returned (begv (Fn.begins l)) ∧ Below w.heap.size w w' := by
  have hi := fun w => inner_any l w hl
  have hle : (Fn.rs l).length ≤ l.length := by unfold Fn.rs; rw [List.length_drop]; omega
  by_cases hC : Fn.cl l ≤ 3
  · have hd : decide ((Fn.cl l : Int) ≤ 3) = true := by simp; omega
    rw [hd] at hi
    clear hd
    rcases hR : Fn.rs l with _ | ⟨c, r⟩
    · rw [hR] at hi
      exact begins_empty l _ w (Lib.hid (Fn.begins_nil hR)) hi
    · rw [hR] at hi
      by_cases hc : c = 96 ∨ c = 126
      · have hgn := @Fn.begins_no l c r hR
        have hgy := @Fn.begins_yes l c r hR hC hc
        rw [hR] at hle
        have hrun := fun w => run_any (c :: r) c w (by omega)
        have hrl := Fn.run_le c (c :: r)
        have htr := fun w => trim_any ((c :: r).drop (Fn.run c (c :: r))) w (by rw [List.length_drop]; omega)
        have hil := Fn.trim_len ((c :: r).drop (Fn.run c (c :: r)))
        rw [List.length_drop] at hil
        have hcn := fun w => contains_any (Fn.info (c :: r) c) 96 w
        have hcl := fun w => clone_any (Fn.info (c :: r) c) w (by unfold Fn.info; omega)
        by_cases h3 : Fn.run c (c :: r) < 3
        · exact begins_few l _ _ c r _ w (Lib.hid (hgn (by omega))) hi hrun hrl htr h3 hc
        · rcases hc with rfl | rfl
          · by_cases h9 : 96 ∈ Fn.info (96 :: r) 96
            · rw [decide_eq_true h9] at hcn
              exact begins_quoted l _ _ r _ w (Lib.hid (hgn (fun h => h.2.2.2 ⟨rfl, h9⟩))) hi hrun hrl htr hcn h3
            · rw [decide_eq_false h9] at hcn
              exact begins_ticks l _ _ r _ w (Lib.hid (hgy (by omega) (fun h => h9 h.2))) hi hrun hrl htr hcn hcl h3
          · exact begins_tildes l _ _ r _ w (Lib.hid (hgy (by omega) (fun h => absurd h.1 (by decide)))) hi hrun hrl htr hcl h3
      · exact begins_other l _ c r w (Lib.hid (Fn.begins_no hR (fun h => hc h.2.1))) hi hc
  · have hd : decide ((Fn.cl l : Int) ≤ 3) = false := by simp; omega
    have hn : Hid (Fn.begins l = none) := Lib.hid (by
      rcases hR : Fn.rs l with _ | ⟨c, r⟩
      · exact Fn.begins_nil hR
      · exact Fn.begins_no hR (fun h => hC h.1))
    rw [hd] at hi
    exact begins_far l _ _ w hn hi
end Go.Proofs.YtcdpecpjhoejnaaDoor
