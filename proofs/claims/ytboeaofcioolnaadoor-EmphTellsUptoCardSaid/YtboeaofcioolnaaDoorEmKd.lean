/- Package emph: whether a run begins, on which side it leans; package code: how many signs stand in a row. -/
import Derived.Test.YtboeaofcioolnaaDoorEmKindV
import Derived.Test.YtboeaofcioolnaaDoorEmJudge
import Derived.Test.YtboeaofcioolnaaDoorFnRun
import Derived.Deep.DeepCutAuto
namespace Go.Proofs.YtboeaofcioolnaaDoor
open Go.RowKit

set_option maxHeartbeats 1000000 in
set_option maxRecDepth 100000 in
theorem prun_any (l : List UInt8) (a : Nat) (c : UInt8) (w : World) (hl : l.length ≤ 1000000000000) (hle : a ≤ l.length) :
    Calls Tryd.prog 23 #[.string (bs l), .int .i64 (a : Int), .int .u8 (c.toNat : Int)] w fun e w' => e = .returned (.int .i64 (Fn.run c (l.drop a) : Nat)) ∧ w = w' := by
  have hsz := bs_size l
  go_enter Tryd.func23, Tryd.ntmps23
  go_wp2_with fail
  go_loop [7] (fun u => ∃ k : Nat, a ≤ k ∧ k ≤ l.length ∧ u = .int .i64 (k : Int) ∧ Hid (k + Fn.run c (l.drop k) = a + Fn.run c (l.drop a))) (fun u => l.length - (intOf u).toNat)
  case atStart => exact ⟨a, by omega, hle, rfl, Lib.hid rfl⟩
  case round =>
    obtain ⟨k, hk1, hk, rfl, hf⟩ := hrel
    by_cases hlt : k < l.length
    · have hx := run_byte hlt w
      by_cases hc : l[k] = c
      · have ht := byte_same hc
        have hf2 : Hid (k + 1 + Fn.run c (l.drop (k + 1)) = a + Fn.run c (l.drop a)) := Lib.hid (by have := hf.out; rw [Fn.run_at hlt hc] at this; omega)
        clear hc
        go_wp2
        go_round
        case rel => exact ⟨k + 1, by omega, by omega, by go_num, hf2⟩
        case measure => simp [intOf]; omega
      · have ht := byte_diff hc
        have hfin := Lib.hid (show k = a + Fn.run c (l.drop a) from by have := hf.out; rw [Fn.run_no hlt hc] at this; omega)
        clear hc
        go_wp2
        go_returns
        exact ⟨by refine ret_i64 ?_; have := hfin.out; omega, rfl⟩
    · have hfin := Lib.hid (show k = a + Fn.run c (l.drop a) from by have := hf.out; rw [Fn.run_end hlt] at this; omega)
      go_wp2
      go_returns
      exact ⟨by refine ret_i64 ?_; have := hfin.out; omega, rfl⟩

set_option maxHeartbeats 2000000 in
set_option maxRecDepth 100000 in
theorem pbegins_off (l : List UInt8) (at_ : Int) (_hs : l.length ≤ 1000000000000) (ho : at_ < 0 ∨ (0 ≤ at_ ∧ (l.length : Int) ≤ at_) ∨ (0 ≤ at_ ∧ ∃ h : at_.toNat < l.length, ((l[at_.toNat].toNat : Int) == 42) = false ∧ ((l[at_.toNat].toNat : Int) == 95) = false)) (w : World) :
    Calls Tryd.prog 22 #[.string (bs l), .int .i64 at_] w fun e w' => e = .returned (.bool false) ∧ Below w.heap.size w w' := by
  have hsz := bs_size l
  rcases ho with h | ⟨h0, h⟩ | ⟨h0, hl, h1, h2⟩
  · have d1 : decide (at_ < 0) = true := decide_eq_true h
    go_enter Tryd.func22, Tryd.ntmps22
    go_wp2_with fail
    go_ret
    exact ⟨rfl, Below.refl _ _⟩
  · have d1 : decide (at_ < 0) = false := decide_eq_false (by omega)
    have d2 : decide (((l.length : Nat) : Int) ≤ at_) = true := decide_eq_true h
    go_enter Tryd.func22, Tryd.ntmps22
    go_wp2_with fail
    go_ret
    exact ⟨rfl, Below.refl _ _⟩
  · have d1 : decide (at_ < 0) = false := decide_eq_false (by omega)
    have d2 : decide (((l.length : Nat) : Int) ≤ at_) = false := decide_eq_false (by omega)
    have hix := run_byte_at (i := at_.toNat) (v := at_) (S := l) hl (by omega)
    have e1 : ((l[at_.toNat].toNat : Int) != 42) = true := by simp only [bne, h1]; rfl
    have e2 : ((l[at_.toNat].toNat : Int) != 95) = true := by simp only [bne, h2]; rfl
    generalize l[at_.toNat] = ch at *
    go_enter Tryd.func22, Tryd.ntmps22
    go_wp2_with fail
    go_ret
    exact ⟨rfl, Below.refl _ _⟩

set_option maxHeartbeats 2000000 in
set_option maxRecDepth 100000 in
theorem pbegins_in (l : List UInt8) (k : Nat) (hs : l.length ≤ 1000000000000) (hk : k < l.length) (h1 : ((l[k].toNat : Int) == 42) = true ∨ (((l[k].toNat : Int) == 42) = false ∧ ((l[k].toNat : Int) == 95) = true)) (t : Bool)
    (ht : (k = 0 ∧ t = true) ∨ (0 < k ∧ ∃ h : k - 1 < l.length, ((l[k - 1].toNat : Int) == (l[k].toNat : Int)) = !t)) (w : World) :
    Calls Tryd.prog 22 #[.string (bs l), .int .i64 (k : Int)] w fun e w' => e = .returned (.bool t) ∧ Below w.heap.size w w' := by
  have hsz := bs_size l
  have hbz := fun nq => below_drewN (Below.refl w.heap.size w) nq
  replace hbz := Lib.hid hbz
  have d1 : decide ((k : Int) < 0) = false := decide_eq_false (by omega)
  have d2 : decide (((l.length : Nat) : Int) ≤ (k : Int)) = false := decide_eq_false (by omega)
  have hix := run_byte hk
  have e1 : ((l[k].toNat : Int) != 42) = !((l[k].toNat : Int) == 42) := rfl
  have e2 : ((l[k].toNat : Int) != 95) = !((l[k].toNat : Int) == 95) := rfl
  rcases ht with ⟨h0, rfl⟩ | ⟨h0, hp, ht⟩
  · have d3 : ((k : Int) == 0) = true := by simpa using h0
    generalize l[k] = ch at *
    clear h0
    rcases h1 with h1 | ⟨h1, h1'⟩
    all_goals
      go_enter Tryd.func22, Tryd.ntmps22
      go_wp2_with fail
      go_quiet (fail)
      go_wp2_with fail
      go_ret
      exact ⟨rfl, hbz.out nq⟩
  · have d3 : ((k : Int) == 0) = false := by
      rw [beq_eq_false_iff_ne]; omega
    have hix1 := run_byte_at (i := k - 1) (v := (k : Int) - 1) (S := l) hp (by omega)
    have e3 : ((l[k - 1].toNat : Int) != (l[k].toNat : Int)) = t := by simp only [bne, ht, Bool.not_not]
    clear ht
    generalize l[k] = ch at *
    generalize l[k - 1] = cp at *
    rcases h1 with h1 | ⟨h1, h1'⟩
    all_goals
      go_enter Tryd.func22, Tryd.ntmps22
      go_wp2_with fail
      go_quiet (fail)
      go_wp2_with fail
      go_ret
      exact ⟨rfl, hbz.out nq⟩

theorem pbegins_any (l : List UInt8) (at_ : Int) (hs : l.length ≤ 1000000000000) (w : World) :
    Calls Tryd.prog 22 #[.string (bs l), .int .i64 at_] w fun e w' => e = .returned (.bool (Em.starts l at_)) ∧ Below w.heap.size w w' := by
  by_cases h0 : at_ < 0
  · rw [Em.starts_no (.inl h0)]
    exact pbegins_off l at_ hs (.inl h0) w
  · by_cases h1 : (l.length : Int) ≤ at_
    · rw [Em.starts_no (.inr (.inl h1))]
      exact pbegins_off l at_ hs (.inr (.inl ⟨by omega, h1⟩)) w
    · obtain ⟨k, rfl⟩ : ∃ k : Nat, at_ = (k : Int) := ⟨at_.toNat, by omega⟩
      have hk : k < l.length := by omega
      by_cases h2 : l[k] = 42 ∨ l[k] = 95
      · have hsg : ((l[k].toNat : Int) == 42) = true ∨ (((l[k].toNat : Int) == 42) = false ∧ ((l[k].toNat : Int) == 95) = true) := by
          rcases h2 with h2 | h2
          · rw [h2]; exact .inl rfl
          · rw [h2]; exact .inr ⟨rfl, rfl⟩
        rcases Nat.eq_zero_or_pos k with hz | hz
        · rw [Em.starts_yes hk h2 (.inl hz)]
          exact pbegins_in l k hs hk hsg true (.inl ⟨hz, rfl⟩) w
        · by_cases h3 : l[k - 1] = l[k]
          · rw [Em.starts_no (l := l) (at_ := (k : Int)) (.inr (.inr (.inr ⟨by omega, hk, h3⟩)))]
            exact pbegins_in l k hs hk hsg false (.inr ⟨hz, by omega, byte_same h3⟩) w
          · rw [Em.starts_yes hk h2 (.inr ⟨by omega, h3⟩)]
            exact pbegins_in l k hs hk hsg true (.inr ⟨hz, by omega, byte_diff h3⟩) w
      · have hn : l[k] ≠ 42 ∧ l[k] ≠ 95 := ⟨fun h => h2 (.inl h), fun h => h2 (.inr h)⟩
        rw [Em.starts_no (l := l) (at_ := (k : Int)) (.inr (.inr (.inl ⟨hk, hn⟩)))]
        exact pbegins_off l (k : Int) hs (.inr (.inr ⟨by omega, hk, byte_ne (n := 42) (by omega) hn.1, byte_ne (n := 95) (by omega) hn.2⟩)) w

set_option maxHeartbeats 2000000 in
theorem pleans_any (a b : Nat) (w : World) :
    Calls Tryd.prog 25 #[.int .i32 (a : Int), .int .i32 (b : Int)] w fun e w' => e = .returned (.bool (Em.leanB b a)) ∧ w = w' := by
  unfold Em.leanB
  obtain ⟨BA, hBA⟩ : ∃ x, blankB (a : Int) = x := ⟨_, rfl⟩
  obtain ⟨BB, hBB⟩ : ∃ x, blankB (b : Int) = x := ⟨_, rfl⟩
  obtain ⟨PA, hPA⟩ : ∃ x, punctB (a : Int) = x := ⟨_, rfl⟩
  obtain ⟨PB, hPB⟩ : ∃ x, punctB (b : Int) = x := ⟨_, rfl⟩
  have q1 := fun w => blank_any (a : Int) w
  have q2 := fun w => blank_any (b : Int) w
  have q3 := fun w => punct_any (a : Int) w
  have q4 := fun w => punct_any (b : Int) w
  rw [hBA] at q1 ⊢
  rw [hBB] at q2 ⊢
  rw [hPA] at q3 ⊢
  rw [hPB] at q4 ⊢
  clear hBA hBB hPA hPB
  go_enter Tryd.func25, Tryd.ntmps25
  go_wp2_with fail
  refine (q1 _).mono ?_
  rintro e w1 ⟨rfl, rfl⟩
  cases BA with
  | true =>
    go_wp2_with fail
    go_ret
    exact ⟨rfl, rfl⟩
  | false =>
    go_wp2_with fail
    refine (q3 _).mono ?_
    rintro e w1 ⟨rfl, rfl⟩
    cases PA with
    | false =>
      go_wp2_with fail
      go_ret
      exact ⟨rfl, rfl⟩
    | true =>
      go_wp2_with fail
      refine (q2 _).mono ?_
      rintro e w1 ⟨rfl, rfl⟩
      cases BB with
      | true =>
        go_wp2_with fail
        go_ret
        exact ⟨rfl, rfl⟩
      | false =>
        go_wp2_with fail
        refine (q4 _).mono ?_
        rintro e w1 ⟨rfl, rfl⟩
        go_wp2_with fail
        go_ret
        exact ⟨rfl, rfl⟩
end Go.Proofs.YtboeaofcioolnaaDoor
