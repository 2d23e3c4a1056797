/- The document's own answer: the line that begins a fence. -/
import Derived.Test.YtcdpecpjhoejnaaDoorFnBegins
namespace Go.Proofs.YtcdpecpjhoejnaaDoor
open Go.RowKit

theorem drop_cons {l r : List UInt8} {c : UInt8} {K : Nat} (h : l.drop K = c :: r) : ∃ hk : K < l.length, l[K] = c := by
  have hk : K < l.length := by
    rcases Nat.lt_or_ge K l.length with h' | h'
    · exact h'
    · rw [List.drop_eq_nil_of_le h'] at h; cases h
  refine ⟨hk, ?_⟩
  rw [List.drop_eq_getElem_cons hk] at h
  injection h
theorem place_byte {l r : List UInt8} {c : UInt8} {K : Nat} (h : l.drop K = c :: r) (w : World) :
    (Instr.index 9 (.string (bs l)) (.int .i64 (K : Int))).run Tryd.prog w = .ok (.int .u8 (c.toNat : Int)) w := by
  obtain ⟨hk, rfl⟩ := drop_cons h
  exact run_byte hk w
theorem tail_from {l : List UInt8} {K n : Nat} (h : K + n ≤ l.length) (w : World) :
    (Instr.slice 9 (.string (bs l)) (some (.int .i64 ((K : Int) + (n : Int)))) none none).run Tryd.prog w = .ok (.string (bs ((l.drop K).drop n))) w := by
  have := run_from (S := l) (i := K + n) h w
  rw [Int.natCast_add] at this
  rw [this, List.drop_drop]

set_option maxHeartbeats 1000000 in
theorem rbegins_few96 (l : List UInt8) (C K n : Nat) (T I : List UInt8) (w : World) (hn : Hid (Fn.begins l = none))
    (hi : ∀ w, Calls Tryd.prog 20 #[.string (bs l)] w fun e w' => e = .returned (.tuple #[.int .i64 (C : Int), .int .i64 (K : Int)]) ∧ w = w')
    (hx : ∀ w, (Instr.index 9 (.string (bs l)) (.int .i64 (K : Int))).run Tryd.prog w = .ok (.int .u8 96) w)
    (hKe : ((K : Int) == (l.length : Int)) = false) (hC3 : decide ((3 : Int) < (C : Int)) = false)
    (hrun : ∀ w, Calls Tryd.prog 21 #[.string (bs l), .int .i64 (K : Int), .int .u8 96] w fun e w' => e = .returned (.int .i64 (n : Int)) ∧ w = w')
    (hts : ∀ w, (Instr.slice 9 (.string (bs l)) (some (.int .i64 ((K : Int) + (n : Int)))) none none).run Tryd.prog w = .ok (.string (bs T)) w)
    (htr : ∀ w, Calls Tryd.prog 27 #[.string (bs T)] w fun e w' => e = .returned (.string (bs I)) ∧ w = w') (hKn : K + n ≤ l.length) (hll : l.length ≤ 140737488355328)
    (h3 : n < 3) :
    Calls Tryd.prog 15 #[.string (bs l)] w fun e w' => e = .returned (begv (Fn.begins l)) ∧ Below w.heap.size w w' := by
  have hsz := bs_size l
  go_enter Tryd.func15, Tryd.ntmps15
  go_wp2_with fail
  refine (hi _).mono ?_
  rintro e w1 ⟨rfl, rfl⟩
  go_wp2_with fail
  refine (hrun _).mono ?_
  rintro e w1 ⟨rfl, rfl⟩
  go_wp2_with fail
  refine (htr _).mono ?_
  rintro e w1 ⟨rfl, rfl⟩
  go_wp2
  exact bodyPost_ret (v := begv none) (by rw [results_cell_tmp rfl]; go_simp; rfl) rfl ⟨by rw [hn.out], ext_alloc _ _⟩

set_option maxHeartbeats 1000000 in
theorem rbegins_few126 (l : List UInt8) (C K n : Nat) (T I : List UInt8) (w : World) (hn : Hid (Fn.begins l = none))
    (hi : ∀ w, Calls Tryd.prog 20 #[.string (bs l)] w fun e w' => e = .returned (.tuple #[.int .i64 (C : Int), .int .i64 (K : Int)]) ∧ w = w')
    (hx : ∀ w, (Instr.index 9 (.string (bs l)) (.int .i64 (K : Int))).run Tryd.prog w = .ok (.int .u8 126) w)
    (hKe : ((K : Int) == (l.length : Int)) = false) (hC3 : decide ((3 : Int) < (C : Int)) = false)
    (hrun : ∀ w, Calls Tryd.prog 21 #[.string (bs l), .int .i64 (K : Int), .int .u8 126] w fun e w' => e = .returned (.int .i64 (n : Int)) ∧ w = w')
    (hts : ∀ w, (Instr.slice 9 (.string (bs l)) (some (.int .i64 ((K : Int) + (n : Int)))) none none).run Tryd.prog w = .ok (.string (bs T)) w)
    (htr : ∀ w, Calls Tryd.prog 27 #[.string (bs T)] w fun e w' => e = .returned (.string (bs I)) ∧ w = w') (hKn : K + n ≤ l.length) (hll : l.length ≤ 140737488355328)
    (h3 : n < 3) :
    Calls Tryd.prog 15 #[.string (bs l)] w fun e w' => e = .returned (begv (Fn.begins l)) ∧ Below w.heap.size w w' := by
  have hsz := bs_size l
  go_enter Tryd.func15, Tryd.ntmps15
  go_wp2_with fail
  refine (hi _).mono ?_
  rintro e w1 ⟨rfl, rfl⟩
  go_wp2_with fail
  refine (hrun _).mono ?_
  rintro e w1 ⟨rfl, rfl⟩
  go_wp2_with fail
  refine (htr _).mono ?_
  rintro e w1 ⟨rfl, rfl⟩
  go_wp2
  exact bodyPost_ret (v := begv none) (by rw [results_cell_tmp rfl]; go_simp; rfl) rfl ⟨by rw [hn.out], ext_alloc _ _⟩

set_option maxHeartbeats 1000000 in
theorem rbegins_quoted (l : List UInt8) (C K n : Nat) (T I : List UInt8) (w : World) (hn : Hid (Fn.begins l = none))
    (hi : ∀ w, Calls Tryd.prog 20 #[.string (bs l)] w fun e w' => e = .returned (.tuple #[.int .i64 (C : Int), .int .i64 (K : Int)]) ∧ w = w')
    (hx : ∀ w, (Instr.index 9 (.string (bs l)) (.int .i64 (K : Int))).run Tryd.prog w = .ok (.int .u8 96) w)
    (hKe : ((K : Int) == (l.length : Int)) = false) (hC3 : decide ((3 : Int) < (C : Int)) = false)
    (hrun : ∀ w, Calls Tryd.prog 21 #[.string (bs l), .int .i64 (K : Int), .int .u8 96] w fun e w' => e = .returned (.int .i64 (n : Int)) ∧ w = w')
    (hts : ∀ w, (Instr.slice 9 (.string (bs l)) (some (.int .i64 ((K : Int) + (n : Int)))) none none).run Tryd.prog w = .ok (.string (bs T)) w)
    (htr : ∀ w, Calls Tryd.prog 27 #[.string (bs T)] w fun e w' => e = .returned (.string (bs I)) ∧ w = w') (hKn : K + n ≤ l.length) (hll : l.length ≤ 140737488355328)
    (hhs : ∀ w, Calls Tryd.prog 28 #[.string (bs I), .int .u8 96] w fun e w' => e = .returned (.bool true) ∧ w = w')
    (h3 : ¬ n < 3) :
    Calls Tryd.prog 15 #[.string (bs l)] w fun e w' => e = .returned (begv (Fn.begins l)) ∧ Below w.heap.size w w' := by
  have hsz := bs_size l
  go_enter Tryd.func15, Tryd.ntmps15
  go_wp2_with fail
  refine (hi _).mono ?_
  rintro e w1 ⟨rfl, rfl⟩
  go_wp2_with fail
  refine (hrun _).mono ?_
  rintro e w1 ⟨rfl, rfl⟩
  go_wp2_with fail
  refine (htr _).mono ?_
  rintro e w1 ⟨rfl, rfl⟩
  go_wp2_with fail
  refine (hhs _).mono ?_
  rintro e w1 ⟨rfl, rfl⟩
  go_wp2
  exact bodyPost_ret (v := begv none) (by rw [results_cell_tmp rfl]; go_simp; rfl) rfl ⟨by rw [hn.out], ext_alloc _ _⟩

set_option maxHeartbeats 1000000 in
theorem rbegins_ticks (l : List UInt8) (C K n : Nat) (T I : List UInt8) (w : World) (hn : Hid (Fn.begins l = some ⟨96, n, C, I⟩))
    (hi : ∀ w, Calls Tryd.prog 20 #[.string (bs l)] w fun e w' => e = .returned (.tuple #[.int .i64 (C : Int), .int .i64 (K : Int)]) ∧ w = w')
    (hx : ∀ w, (Instr.index 9 (.string (bs l)) (.int .i64 (K : Int))).run Tryd.prog w = .ok (.int .u8 96) w)
    (hKe : ((K : Int) == (l.length : Int)) = false) (hC3 : decide ((3 : Int) < (C : Int)) = false)
    (hrun : ∀ w, Calls Tryd.prog 21 #[.string (bs l), .int .i64 (K : Int), .int .u8 96] w fun e w' => e = .returned (.int .i64 (n : Int)) ∧ w = w')
    (hts : ∀ w, (Instr.slice 9 (.string (bs l)) (some (.int .i64 ((K : Int) + (n : Int)))) none none).run Tryd.prog w = .ok (.string (bs T)) w)
    (htr : ∀ w, Calls Tryd.prog 27 #[.string (bs T)] w fun e w' => e = .returned (.string (bs I)) ∧ w = w') (hKn : K + n ≤ l.length) (hll : l.length ≤ 140737488355328)
    (hhs : ∀ w, Calls Tryd.prog 28 #[.string (bs I), .int .u8 96] w fun e w' => e = .returned (.bool false) ∧ w = w')
    (h3 : ¬ n < 3) :
    Calls Tryd.prog 15 #[.string (bs l)] w fun e w' => e = .returned (begv (Fn.begins l)) ∧ Below w.heap.size w w' := by
  have hsz := bs_size l
  go_enter Tryd.func15, Tryd.ntmps15
  go_wp2_with fail
  refine (hi _).mono ?_
  rintro e w1 ⟨rfl, rfl⟩
  go_wp2_with fail
  refine (hrun _).mono ?_
  rintro e w1 ⟨rfl, rfl⟩
  go_wp2_with fail
  refine (htr _).mono ?_
  rintro e w1 ⟨rfl, rfl⟩
  go_wp2_with fail
  refine (hhs _).mono ?_
  rintro e w1 ⟨rfl, rfl⟩
  go_wp2
  exact bodyPost_ret (v := begv (some ⟨96, n, C, I⟩)) (by rw [results_cell_tmp rfl]; go_simp; rfl) rfl ⟨by rw [hn.out], ext_alloc _ _⟩

set_option maxHeartbeats 1000000 in
theorem rbegins_tildes (l : List UInt8) (C K n : Nat) (T I : List UInt8) (w : World) (hn : Hid (Fn.begins l = some ⟨126, n, C, I⟩))
    (hi : ∀ w, Calls Tryd.prog 20 #[.string (bs l)] w fun e w' => e = .returned (.tuple #[.int .i64 (C : Int), .int .i64 (K : Int)]) ∧ w = w')
    (hx : ∀ w, (Instr.index 9 (.string (bs l)) (.int .i64 (K : Int))).run Tryd.prog w = .ok (.int .u8 126) w)
    (hKe : ((K : Int) == (l.length : Int)) = false) (hC3 : decide ((3 : Int) < (C : Int)) = false)
    (hrun : ∀ w, Calls Tryd.prog 21 #[.string (bs l), .int .i64 (K : Int), .int .u8 126] w fun e w' => e = .returned (.int .i64 (n : Int)) ∧ w = w')
    (hts : ∀ w, (Instr.slice 9 (.string (bs l)) (some (.int .i64 ((K : Int) + (n : Int)))) none none).run Tryd.prog w = .ok (.string (bs T)) w)
    (htr : ∀ w, Calls Tryd.prog 27 #[.string (bs T)] w fun e w' => e = .returned (.string (bs I)) ∧ w = w') (hKn : K + n ≤ l.length) (hll : l.length ≤ 140737488355328)
    (h3 : ¬ n < 3) :
    Calls Tryd.prog 15 #[.string (bs l)] w fun e w' => e = .returned (begv (Fn.begins l)) ∧ Below w.heap.size w w' := by
  have hsz := bs_size l
  go_enter Tryd.func15, Tryd.ntmps15
  go_wp2_with fail
  refine (hi _).mono ?_
  rintro e w1 ⟨rfl, rfl⟩
  go_wp2_with fail
  refine (hrun _).mono ?_
  rintro e w1 ⟨rfl, rfl⟩
  go_wp2_with fail
  refine (htr _).mono ?_
  rintro e w1 ⟨rfl, rfl⟩
  go_wp2
  exact bodyPost_ret (v := begv (some ⟨126, n, C, I⟩)) (by rw [results_cell_tmp rfl]; go_simp; rfl) rfl ⟨by rw [hn.out], ext_alloc _ _⟩

set_option maxHeartbeats 1000000 in
theorem rbegins_other (l : List UInt8) (C K : Nat) (c : UInt8) (w : World) (hn : Hid (Fn.begins l = none))
    (hi : ∀ w, Calls Tryd.prog 20 #[.string (bs l)] w fun e w' => e = .returned (.tuple #[.int .i64 (C : Int), .int .i64 (K : Int)]) ∧ w = w')
    (hx : ∀ w, (Instr.index 9 (.string (bs l)) (.int .i64 (K : Int))).run Tryd.prog w = .ok (.int .u8 (c.toNat : Int)) w)
    (hKe : ((K : Int) == (l.length : Int)) = false) (hC3 : decide ((3 : Int) < (C : Int)) = false)
    (hc1 : ((c.toNat : Int) != 96) = true) (hc2 : ((c.toNat : Int) != 126) = true) :
    Calls Tryd.prog 15 #[.string (bs l)] w fun e w' => e = .returned (begv (Fn.begins l)) ∧ Below w.heap.size w w' := by
  have hsz := bs_size l
  go_enter Tryd.func15, Tryd.ntmps15
  go_wp2_with fail
  refine (hi _).mono ?_
  rintro e w1 ⟨rfl, rfl⟩
  go_wp2
  exact bodyPost_ret (v := begv none) (by rw [results_cell_tmp rfl]; go_simp; rfl) rfl ⟨by rw [hn.out], ext_alloc _ _⟩

set_option maxHeartbeats 1000000 in
theorem rbegins_empty (l : List UInt8) (C K : Nat) (w : World) (hn : Hid (Fn.begins l = none))
    (hi : ∀ w, Calls Tryd.prog 20 #[.string (bs l)] w fun e w' => e = .returned (.tuple #[.int .i64 (C : Int), .int .i64 (K : Int)]) ∧ w = w')
    (hk : K = l.length) :
    Calls Tryd.prog 15 #[.string (bs l)] w fun e w' => e = .returned (begv (Fn.begins l)) ∧ Below w.heap.size w w' := by
  have hsz := bs_size l
  go_enter Tryd.func15, Tryd.ntmps15
  go_wp2_with fail
  refine (hi _).mono ?_
  rintro e w1 ⟨rfl, rfl⟩
  go_wp2
  all_goals exact bodyPost_ret (v := begv none) (by rw [results_cell_tmp rfl]; go_simp; rfl) rfl ⟨by rw [hn.out], ext_alloc _ _⟩

set_option maxHeartbeats 1000000 in
theorem rbegins_far (l : List UInt8) (C K : Nat) (w : World) (hn : Hid (Fn.begins l = none))
    (hi : ∀ w, Calls Tryd.prog 20 #[.string (bs l)] w fun e w' => e = .returned (.tuple #[.int .i64 (C : Int), .int .i64 (K : Int)]) ∧ w = w')
    (hC3 : decide ((3 : Int) < (C : Int)) = true) :
    Calls Tryd.prog 15 #[.string (bs l)] w fun e w' => e = .returned (begv (Fn.begins l)) ∧ Below w.heap.size w w' := by
  have hsz := bs_size l
  go_enter Tryd.func15, Tryd.ntmps15
  go_wp2_with fail
  refine (hi _).mono ?_
  rintro e w1 ⟨rfl, rfl⟩
  go_wp2
  exact bodyPost_ret (v := begv none) (by rw [results_cell_tmp rfl]; go_simp; rfl) rfl ⟨by rw [hn.out], ext_alloc _ _⟩

theorem rbegins_any (l : List UInt8) (w : World) (hl : l.length ≤ 140737488355328) :
    Calls Tryd.prog 15 #[.string (bs l)] w fun e w' => e = .returned (begv (Fn.begins l)) ∧ Below w.heap.size w w' := by
  have hi := fun w => rindent_any l w hl
  have hle := Cl.lead_le Cl.inf l 0
  have hcl : Fn.cl l = (Cl.lead Cl.inf l 0).1 := rfl
  have hrs : Fn.rs l = l.drop (Cl.lead Cl.inf l 0).2 := rfl
  obtain ⟨C, K, hCK⟩ : ∃ C K, Cl.lead Cl.inf l 0 = (C, K) := ⟨_, _, rfl⟩
  rw [hCK] at hi hle hcl hrs
  simp only at hi hle hcl hrs
  clear hCK
  by_cases hC : C ≤ 3
  · rcases hR : l.drop K with _ | ⟨c, r⟩
    · have hk : K = l.length := by
        have := congrArg List.length hR
        rw [List.length_drop] at this
        simp at this; omega
      exact rbegins_empty l C K w (Lib.hid (Fn.begins_nil (hrs.trans hR))) hi hk
    · have hx := place_byte hR
      obtain ⟨hk, _⟩ := drop_cons hR
      have hKe : ((K : Int) == (l.length : Int)) = false := by rw [beq_eq_false_iff_ne]; omega
      have hC3 : decide ((3 : Int) < (C : Int)) = false := by simp; omega
      by_cases hc : c = 96 ∨ c = 126
      · have hgn := @Fn.begins_no l c r (hrs.trans hR)
        have hgy := @Fn.begins_yes l c r (hrs.trans hR) (by omega) hc
        have hrun := fun w => rrun_any l K c w hl (by omega)
        rw [hR] at hrun
        have hrl := Fn.run_le c (c :: r)
        have hlen := congrArg List.length hR
        rw [List.length_drop] at hlen
        have hts := tail_from (l := l) (K := K) (n := Fn.run c (c :: r)) (by omega)
        have htr := fun w => rtrim_any ((l.drop K).drop (Fn.run c (c :: r))) w (by rw [List.length_drop, List.length_drop]; omega)
        rw [hR] at hts htr
        have hil := Fn.trim_len ((c :: r).drop (Fn.run c (c :: r)))
        rw [List.length_drop] at hil
        have hhs := fun w => rhas_any (Fn.info (c :: r) c) 96 w (by unfold Fn.info; omega)
        change ∀ w, Calls Tryd.prog 27 #[.string (bs ((c :: r).drop (Fn.run c (c :: r))))] w fun e w' => e = .returned (.string (bs (Fn.info (c :: r) c))) ∧ w = w' at htr
        rw [hcl] at hgy hgn
        by_cases h3 : Fn.run c (c :: r) < 3
        · rcases hc with rfl | rfl
          · exact rbegins_few96 l C K _ _ _ w (Lib.hid (hgn (by omega))) hi hx hKe hC3 hrun hts htr (by omega) hl h3
          · exact rbegins_few126 l C K _ _ _ w (Lib.hid (hgn (by omega))) hi hx hKe hC3 hrun hts htr (by omega) hl h3
        · rcases hc with rfl | rfl
          · by_cases h9 : 96 ∈ Fn.info (96 :: r) 96
            · rw [decide_eq_true h9] at hhs
              exact rbegins_quoted l C K _ _ _ w (Lib.hid (hgn (fun h => h.2.2.2 ⟨rfl, h9⟩))) hi hx hKe hC3 hrun hts htr (by omega) hl hhs h3
            · rw [decide_eq_false h9] at hhs
              exact rbegins_ticks l C K _ _ _ w (Lib.hid (hgy (by omega) (fun h => h9 h.2))) hi hx hKe hC3 hrun hts htr (by omega) hl hhs h3
          · exact rbegins_tildes l C K _ _ _ w (Lib.hid (hgy (by omega) (fun h => absurd h.1 (by decide)))) hi hx hKe hC3 hrun hts htr (by omega) hl h3
      · exact rbegins_other l C K c w (Lib.hid (Fn.begins_no (hrs.trans hR) (fun h => hc h.2.1))) hi hx hKe hC3
          (by have := byte_ne (n := 96) (by omega) (fun h => hc (.inl h)); simpa using this) (by have := byte_ne (n := 126) (by omega) (fun h => hc (.inr h)); simpa using this)
  · have hn : Hid (Fn.begins l = none) := Lib.hid (by
      rcases hR : Fn.rs l with _ | ⟨c, r⟩
      · exact Fn.begins_nil hR
      · exact Fn.begins_no hR (fun h => hC (by rw [← hcl]; exact h.1)))
    exact rbegins_far l C K w hn hi (by simp; omega)
end Go.Proofs.YtcdpecpjhoejnaaDoor
