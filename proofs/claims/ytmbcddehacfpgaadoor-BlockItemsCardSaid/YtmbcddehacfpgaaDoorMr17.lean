/- The library's Trim, Contains and Clone in my words; a fence as a value; a fresh fence's block. Package fence: the line that begins a fence. Package fence and the document's own answer: the line that ends a fence. -/
import Derived.Test.YtmbcddehacfpgaaDoorMr10
import Derived.Test.YtmbcddehacfpgaaDoorMr02
import Derived.Test.YtmbcddehacfpgaaDoorMr07
import Derived.Lib.IndexAny
import Derived.Laws.ResultCell
namespace Go.Proofs.YtmbcddehacfpgaaDoor
open Go.RowKit

theorem isGap_in (b : UInt8) : [(32 : UInt8), 9].contains b = Cl.isGap b := by
  simp only [Cl.isGap, List.contains, List.elem]
  cases b == 32 <;> cases b == 9 <;> rfl
theorem trimLeft_eq (l : List UInt8) : Lib.trimLeftS l [32, 9] = Fn.front l := by
  unfold Lib.trimLeftS
  induction l with
  | nil => rfl
  | cons b r ih =>
    rw [List.dropWhile_cons, isGap_in]
    cases hb : Cl.isGap b with
    | true => rw [if_pos rfl, ih, Fn.front_gap _ hb]
    | false => rw [if_neg (by simp), Fn.front_word _ hb]
theorem trimRight_eq (l : List UInt8) : Lib.trimRightS l [32, 9] = Fn.back l := by
  unfold Lib.trimRightS
  induction l with
  | nil => rfl
  | cons b r ih =>
    rw [List.reverse_cons, List.dropWhile_append]
    cases hr : Fn.back r with
    | nil =>
      rw [hr] at ih
      have h0 : r.reverse.dropWhile ([(32 : UInt8), 9].contains ·) = [] := by
        have := congrArg List.reverse ih
        simpa using this
      rw [h0]
      simp only [List.isEmpty_nil, if_true, List.dropWhile_cons, List.dropWhile_nil, isGap_in]
      cases hb : Cl.isGap b with
      | true => rw [Fn.back_gap hr hb]; rfl
      | false => rw [Fn.back_word _ hb, hr]; rfl
    | cons x y =>
      rw [hr] at ih
      have h0 : (r.reverse.dropWhile ([(32 : UInt8), 9].contains ·)).isEmpty = false := by
        cases hq : r.reverse.dropWhile ([(32 : UInt8), 9].contains ·) with
        | nil => rw [hq] at ih; cases ih
        | cons _ _ => rfl
      rw [h0, Fn.back_more (by rw [hr]; simp), hr, ← ih]
      simp
theorem trimS_eq (l : List UInt8) : Lib.trimS l [32, 9] = Fn.trim l := by
  unfold Lib.trimS
  rw [trimLeft_eq, trimRight_eq, Fn.front_back]; rfl

theorem trim_any (l : List UInt8) (w : World) (hl : l.length ≤ 140737488355328) :
    Calls Tryd.prog 41 #[.string (bs l), .string ⟨#[32, 9]⟩] w fun e w' => e = .returned (.string (bs (Fn.trim l))) ∧ Below w.heap.size w w' := by
  have h := Any.strings_Trim_laid Tryd.lays160 (by kernel_rfl) (bs l) ⟨#[32, 9]⟩ w (by rw [bs_size]; omega) (by decide) (ascii_of_all (by decide))
  change Calls Tryd.prog 41 _ _ (fun e w' => e = .returned (.string (bs (Lib.trimS l [32, 9]))) ∧ Below w.heap.size w w') at h
  rwa [trimS_eq] at h

theorem contains_any (l : List UInt8) (c : UInt8) (w : World) :
    Calls Tryd.prog 60 #[.string (bs l), .string ⟨#[c]⟩] w fun e w' => e = .returned (.bool (decide (c ∈ l))) ∧ w' = w := by
  have h := Tryd.strings_Contains_one (bs l) c w
  rwa [show decide (0 ≤ Lib.indexByte (bs l).data.toList c) = decide (c ∈ l) from by rw [← Lib.contains_iff_indexByte]; simp [bs]] at h

set_option maxHeartbeats 1000000 in
theorem clone_any (l : List UInt8) (w : World) (hl : l.length ≤ 140737488355328) :
    Calls Tryd.prog 59 #[.string (bs l)] w fun e w' => e = .returned (.string (bs l)) ∧ Below w.heap.size w w' := by
  go_enter Tryd.func59, Tryd.ntmps59
  go_wp2_with (go_at_call 76; refine (Tryd.stringslite_Clone (bs l) _ (by rw [bs_size]; omega)).mono ?_; rintro e w' ⟨rfl, hb⟩)
  go_ret
  exact ⟨rfl, hb⟩

/-- a fence as a value -/
def opv (o : Fn.Op) : Value := .agg #[.int .u8 (o.c.toNat : Int), .int .i64 (o.n : Int), .int .i64 (o.ind : Int), .string (bs o.info)]
def nov : Value := .agg #[.int .u8 0, .int .i64 0, .int .i64 0, .string ⟨#[]⟩]
def begv : Option Fn.Op → Value
  | none => .tuple #[nov, .bool false]
  | some o => .tuple #[opv o, .bool true]

end Go.Proofs.YtmbcddehacfpgaaDoor

namespace Go.Proofs.YtmbcddehacfpgaaDoor
open Go.RowKit

theorem first_byte (c : UInt8) (r : List UInt8) (w : World) :
    (Instr.index 9 (.string (bs (c :: r))) (.int .i64 0)).run Tryd.prog w = .ok (.int .u8 (c.toNat : Int)) w := run_byte (S := c :: r) (i := 0) (by simp) w

set_option maxHeartbeats 1000000 in
theorem begins_few (l : List UInt8) (C n : Nat) (c : UInt8) (r I : List UInt8) (w : World) (hn : Hid (Fn.begins l = none))
    (hi : ∀ w, Calls Tryd.prog 49 #[.string (bs l)] w fun e w' => e = .returned (.tuple #[.int .i64 (C : Int), .string (bs (c :: r)), .bool true]) ∧ Below w.heap.size w w')
    (hrun : ∀ w, Calls Tryd.prog 50 #[.string (bs (c :: r)), .int .u8 (c.toNat : Int)] w fun e w' => e = .returned (.int .i64 (n : Int)) ∧ w = w')
    (hrl : n ≤ (c :: r).length)
    (htr : ∀ w, Calls Tryd.prog 41 #[.string (bs ((c :: r).drop n)), .string ⟨#[32, 9]⟩] w fun e w' => e = .returned (.string (bs I)) ∧ Below w.heap.size w w')
    (h3 : n < 3) (hc : c = 96 ∨ c = 126) :
    Calls Tryd.prog 38 #[.string (bs l)] w fun e w' => e = .returned (begv (Fn.begins l)) ∧ Below w.heap.size w w' := by
  have hx := first_byte c r
  have ht := text_cons c r
  have hsl := run_from (S := c :: r) (i := n) hrl
  have hc2 : (((c.toNat : Int) != 96) = false) ∨ ((((c.toNat : Int) != 96) = true) ∧ (((c.toNat : Int) != 126) = false)) := by
    rcases hc with rfl | rfl
    · exact .inl rfl
    · exact .inr ⟨rfl, rfl⟩
  clear hc
  rcases hc2 with hc2 | ⟨hc1, hc2⟩
  all_goals
    go_enter Tryd.func38, Tryd.ntmps38
    go_wp2_with fail
    refine (hi _).mono ?_
    rintro e w1 ⟨rfl, hb1⟩
    replace hb1 := Lib.hid hb1
    go_wp2_with fail
    refine (hrun _).mono ?_
    rintro e w' ⟨rfl, rfl⟩
    go_wp2_with fail
    refine (htr _).mono ?_
    rintro e w2 ⟨rfl, hb2⟩
    replace hb2 := Lib.hid (ext_trans hb1.out hb2)
    obtain ⟨k0, k1, k2, k3, k4⟩ := blk_open hb2.out
    go_wp2
    exact bodyPost_ret (v := begv none) (by rw [results_cell_tmp rfl]; go_simp; rfl) rfl ⟨by rw [hn.out], blk_done hb2.out _ _ _ _⟩
set_option maxHeartbeats 1000000 in
theorem begins_quoted (l : List UInt8) (C n : Nat) (r I : List UInt8) (w : World) (hn : Hid (Fn.begins l = none))
    (hi : ∀ w, Calls Tryd.prog 49 #[.string (bs l)] w fun e w' => e = .returned (.tuple #[.int .i64 (C : Int), .string (bs (96 :: r)), .bool true]) ∧ Below w.heap.size w w')
    (hrun : ∀ w, Calls Tryd.prog 50 #[.string (bs (96 :: r)), .int .u8 96] w fun e w' => e = .returned (.int .i64 (n : Int)) ∧ w = w')
    (hrl : n ≤ (96 :: r).length)
    (htr : ∀ w, Calls Tryd.prog 41 #[.string (bs ((96 :: r).drop n)), .string ⟨#[32, 9]⟩] w fun e w' => e = .returned (.string (bs I)) ∧ Below w.heap.size w w')
    (hcn : ∀ w, Calls Tryd.prog 60 #[.string (bs I), .string ⟨#[96]⟩] w fun e w' => e = .returned (.bool true) ∧ w' = w)
    (h3 : ¬ n < 3) :
    Calls Tryd.prog 38 #[.string (bs l)] w fun e w' => e = .returned (begv (Fn.begins l)) ∧ Below w.heap.size w w' := by
  have hx := first_byte 96 r
  have ht := text_cons 96 r
  have hsl := run_from (S := 96 :: r) (i := n) hrl
  go_enter Tryd.func38, Tryd.ntmps38
  go_wp2_with fail
  refine (hi _).mono ?_
  rintro e w1 ⟨rfl, hb1⟩
  replace hb1 := Lib.hid hb1
  go_wp2_with fail
  refine (hrun _).mono ?_
  rintro e w' ⟨rfl, rfl⟩
  go_wp2_with fail
  refine (htr _).mono ?_
  rintro e w2 ⟨rfl, hb2⟩
  replace hb2 := Lib.hid (ext_trans hb1.out hb2)
  go_wp2_with fail
  refine (hcn _).mono ?_
  rintro e w' ⟨rfl, rfl⟩
  obtain ⟨k0, k1, k2, k3, k4⟩ := blk_open hb2.out
  go_wp2
  exact bodyPost_ret (v := begv none) (by rw [results_cell_tmp rfl]; go_simp; rfl) rfl ⟨by rw [hn.out], blk_done hb2.out _ _ _ _⟩

set_option maxHeartbeats 1000000 in
theorem begins_ticks (l : List UInt8) (C n : Nat) (r I : List UInt8) (w : World) (hn : Hid (Fn.begins l = some ⟨96, n, C, I⟩))
    (hi : ∀ w, Calls Tryd.prog 49 #[.string (bs l)] w fun e w' => e = .returned (.tuple #[.int .i64 (C : Int), .string (bs (96 :: r)), .bool true]) ∧ Below w.heap.size w w')
    (hrun : ∀ w, Calls Tryd.prog 50 #[.string (bs (96 :: r)), .int .u8 96] w fun e w' => e = .returned (.int .i64 (n : Int)) ∧ w = w')
    (hrl : n ≤ (96 :: r).length)
    (htr : ∀ w, Calls Tryd.prog 41 #[.string (bs ((96 :: r).drop n)), .string ⟨#[32, 9]⟩] w fun e w' => e = .returned (.string (bs I)) ∧ Below w.heap.size w w')
    (hcn : ∀ w, Calls Tryd.prog 60 #[.string (bs I), .string ⟨#[96]⟩] w fun e w' => e = .returned (.bool false) ∧ w' = w)
    (hcl : ∀ w, Calls Tryd.prog 59 #[.string (bs I)] w fun e w' => e = .returned (.string (bs I)) ∧ Below w.heap.size w w')
    (h3 : ¬ n < 3) :
    Calls Tryd.prog 38 #[.string (bs l)] w fun e w' => e = .returned (begv (Fn.begins l)) ∧ Below w.heap.size w w' := by
  have hx := first_byte 96 r
  have ht := text_cons 96 r
  have hsl := run_from (S := 96 :: r) (i := n) hrl
  go_enter Tryd.func38, Tryd.ntmps38
  go_wp2_with fail
  refine (hi _).mono ?_
  rintro e w1 ⟨rfl, hb1⟩
  replace hb1 := Lib.hid hb1
  go_wp2_with fail
  refine (hrun _).mono ?_
  rintro e w' ⟨rfl, rfl⟩
  go_wp2_with fail
  refine (htr _).mono ?_
  rintro e w2 ⟨rfl, hb2⟩
  replace hb2 := Lib.hid (ext_trans hb1.out hb2)
  go_wp2_with fail
  refine (hcn _).mono ?_
  rintro e w' ⟨rfl, rfl⟩
  go_wp2_with fail
  refine (hcl _).mono ?_
  rintro e w3 ⟨rfl, hb3⟩
  replace hb3 := Lib.hid (ext_trans hb2.out hb3)
  obtain ⟨k0, k1, k2, k3, k4⟩ := blk_open hb3.out
  go_wp2
  exact bodyPost_ret (v := begv (some ⟨96, n, C, I⟩)) (by rw [results_cell_tmp rfl]; go_simp; rfl) rfl ⟨by rw [hn.out], blk_done hb3.out _ _ _ _⟩

set_option maxHeartbeats 1000000 in
theorem begins_tildes (l : List UInt8) (C n : Nat) (r I : List UInt8) (w : World) (hn : Hid (Fn.begins l = some ⟨126, n, C, I⟩))
    (hi : ∀ w, Calls Tryd.prog 49 #[.string (bs l)] w fun e w' => e = .returned (.tuple #[.int .i64 (C : Int), .string (bs (126 :: r)), .bool true]) ∧ Below w.heap.size w w')
    (hrun : ∀ w, Calls Tryd.prog 50 #[.string (bs (126 :: r)), .int .u8 126] w fun e w' => e = .returned (.int .i64 (n : Int)) ∧ w = w')
    (hrl : n ≤ (126 :: r).length)
    (htr : ∀ w, Calls Tryd.prog 41 #[.string (bs ((126 :: r).drop n)), .string ⟨#[32, 9]⟩] w fun e w' => e = .returned (.string (bs I)) ∧ Below w.heap.size w w')
    (hcl : ∀ w, Calls Tryd.prog 59 #[.string (bs I)] w fun e w' => e = .returned (.string (bs I)) ∧ Below w.heap.size w w')
    (h3 : ¬ n < 3) :
    Calls Tryd.prog 38 #[.string (bs l)] w fun e w' => e = .returned (begv (Fn.begins l)) ∧ Below w.heap.size w w' := by
  have hx := first_byte 126 r
  have ht := text_cons 126 r
  have hsl := run_from (S := 126 :: r) (i := n) hrl
  go_enter Tryd.func38, Tryd.ntmps38
  go_wp2_with fail
  refine (hi _).mono ?_
  rintro e w1 ⟨rfl, hb1⟩
  replace hb1 := Lib.hid hb1
  go_wp2_with fail
  refine (hrun _).mono ?_
  rintro e w' ⟨rfl, rfl⟩
  go_wp2_with fail
  refine (htr _).mono ?_
  rintro e w2 ⟨rfl, hb2⟩
  replace hb2 := Lib.hid (ext_trans hb1.out hb2)
  go_wp2_with fail
  refine (hcl _).mono ?_
  rintro e w3 ⟨rfl, hb3⟩
  replace hb3 := Lib.hid (ext_trans hb2.out hb3)
  obtain ⟨k0, k1, k2, k3, k4⟩ := blk_open hb3.out
  go_wp2
  exact bodyPost_ret (v := begv (some ⟨126, n, C, I⟩)) (by rw [results_cell_tmp rfl]; go_simp; rfl) rfl ⟨by rw [hn.out], blk_done hb3.out _ _ _ _⟩

set_option maxHeartbeats 1000000 in
theorem begins_other (l : List UInt8) (C : Nat) (c : UInt8) (r : List UInt8) (w : World) (hn : Hid (Fn.begins l = none))
    (hi : ∀ w, Calls Tryd.prog 49 #[.string (bs l)] w fun e w' => e = .returned (.tuple #[.int .i64 (C : Int), .string (bs (c :: r)), .bool true]) ∧ Below w.heap.size w w')
    (hc : ¬ (c = 96 ∨ c = 126)) :
    Calls Tryd.prog 38 #[.string (bs l)] w fun e w' => e = .returned (begv (Fn.begins l)) ∧ Below w.heap.size w w' := by
  have hx := first_byte c r
  have ht := text_cons c r
  have hc1 : ((c.toNat : Int) != 96) = true := by have := byte_ne (n := 96) (by omega) (fun h => hc (.inl h)); simpa using this
  have hc2 : ((c.toNat : Int) != 126) = true := by have := byte_ne (n := 126) (by omega) (fun h => hc (.inr h)); simpa using this
  clear hc
  go_enter Tryd.func38, Tryd.ntmps38
  go_wp2_with fail
  refine (hi _).mono ?_
  rintro e w1 ⟨rfl, hb1⟩
  replace hb1 := Lib.hid hb1
  obtain ⟨k0, k1, k2, k3, k4⟩ := blk_open hb1.out
  go_wp2
  exact bodyPost_ret (v := begv none) (by rw [results_cell_tmp rfl]; go_simp; rfl) rfl ⟨by rw [hn.out], blk_done hb1.out _ _ _ _⟩

set_option maxHeartbeats 1000000 in
theorem begins_empty (l : List UInt8) (C : Nat) (w : World) (hn : Hid (Fn.begins l = none))
    (hi : ∀ w, Calls Tryd.prog 49 #[.string (bs l)] w fun e w' => e = .returned (.tuple #[.int .i64 (C : Int), .string (bs ([])), .bool true]) ∧ Below w.heap.size w w') :
    Calls Tryd.prog 38 #[.string (bs l)] w fun e w' => e = .returned (begv (Fn.begins l)) ∧ Below w.heap.size w w' := by
  have ht := text_nil
  go_enter Tryd.func38, Tryd.ntmps38
  go_wp2_with fail
  refine (hi _).mono ?_
  rintro e w1 ⟨rfl, hb1⟩
  replace hb1 := Lib.hid hb1
  obtain ⟨k0, k1, k2, k3, k4⟩ := blk_open hb1.out
  go_wp2
  exact bodyPost_ret (v := begv none) (by rw [results_cell_tmp rfl]; go_simp; rfl) rfl ⟨by rw [hn.out], blk_done hb1.out _ _ _ _⟩

set_option maxHeartbeats 1000000 in
theorem begins_far (l : List UInt8) (C : Nat) (r : List UInt8) (w : World) (hn : Hid (Fn.begins l = none))
    (hi : ∀ w, Calls Tryd.prog 49 #[.string (bs l)] w fun e w' => e = .returned (.tuple #[.int .i64 (C : Int), .string (bs (r)), .bool false]) ∧ Below w.heap.size w w') :
    Calls Tryd.prog 38 #[.string (bs l)] w fun e w' => e = .returned (begv (Fn.begins l)) ∧ Below w.heap.size w w' := by
  go_enter Tryd.func38, Tryd.ntmps38
  go_wp2_with fail
  refine (hi _).mono ?_
  rintro e w1 ⟨rfl, hb1⟩
  replace hb1 := Lib.hid hb1
  obtain ⟨k0, k1, k2, k3, k4⟩ := blk_open hb1.out
  go_wp2
  exact bodyPost_ret (v := begv none) (by rw [results_cell_tmp rfl]; go_simp; rfl) rfl ⟨by rw [hn.out], blk_done hb1.out _ _ _ _⟩

theorem begins_any (l : List UInt8) (w : World) (hl : l.length ≤ 140737488355328) :
    Calls Tryd.prog 38 #[.string (bs l)] w fun e w' => e = .returned (begv (Fn.begins l)) ∧ Below w.heap.size w w' := by
  have hi := fun w => inner_any l w hl
  have hle : (Fn.rs l).length ≤ l.length := by unfold Fn.rs; rw [List.length_drop]; omega
  by_cases hC : Fn.cl l ≤ 3
  · have hd : decide ((Fn.cl l : Int) ≤ 3) = true := by simp; omega
    rw [hd] at hi
    clear hd
    rcases hR : Fn.rs l with _ | ⟨c, r⟩
    · rw [hR] at hi
      exact begins_empty l _ w (Lib.hid (Fn.begins_nil hR)) hi
    · rw [hR] at hi
      by_cases hc : c = 96 ∨ c = 126
      · have hgn := @Fn.begins_no l c r hR
        have hgy := @Fn.begins_yes l c r hR hC hc
        rw [hR] at hle
        have hrun := fun w => run_any (c :: r) c w (by omega)
        have hrl := Fn.run_le c (c :: r)
        have htr := fun w => trim_any ((c :: r).drop (Fn.run c (c :: r))) w (by rw [List.length_drop]; omega)
        have hil := Fn.trim_len ((c :: r).drop (Fn.run c (c :: r)))
        rw [List.length_drop] at hil
        have hcn := fun w => contains_any (Fn.info (c :: r) c) 96 w
        have hcl := fun w => clone_any (Fn.info (c :: r) c) w (by unfold Fn.info; omega)
        by_cases h3 : Fn.run c (c :: r) < 3
        · exact begins_few l _ _ c r _ w (Lib.hid (hgn (by omega))) hi hrun hrl htr h3 hc
        · rcases hc with rfl | rfl
          · by_cases h9 : 96 ∈ Fn.info (96 :: r) 96
            · rw [decide_eq_true h9] at hcn
              exact begins_quoted l _ _ r _ w (Lib.hid (hgn (fun h => h.2.2.2 ⟨rfl, h9⟩))) hi hrun hrl htr hcn h3
            · rw [decide_eq_false h9] at hcn
              exact begins_ticks l _ _ r _ w (Lib.hid (hgy (by omega) (fun h => h9 h.2))) hi hrun hrl htr hcn hcl h3
          · exact begins_tildes l _ _ r _ w (Lib.hid (hgy (by omega) (fun h => absurd h.1 (by decide)))) hi hrun hrl htr hcl h3
      · exact begins_other l _ c r w (Lib.hid (Fn.begins_no hR (fun h => hc h.2.1))) hi hc
  · have hd : decide ((Fn.cl l : Int) ≤ 3) = false := by simp; omega
    have hn : Hid (Fn.begins l = none) := Lib.hid (by
      rcases hR : Fn.rs l with _ | ⟨c, r⟩
      · exact Fn.begins_nil hR
      · exact Fn.begins_no hR (fun h => hC h.1))
    rw [hd] at hi
    exact begins_far l _ _ w hn hi
end Go.Proofs.YtmbcddehacfpgaaDoor

namespace Go.Proofs.YtmbcddehacfpgaaDoor
open Go.RowKit

/-- a fence as a value: its sign, its count, and what doesn't matter -/
def fv (c : UInt8) (n i : Int) (s : ByteArray) : Value := .agg #[.int .u8 (c.toNat : Int), .int .i64 n, .int .i64 i, .string s]

theorem ends_tests (c : UInt8) (n : Int) (l : List UInt8) :
    (¬ Fn.cl l ≤ 3 ∧ Fn.ends c n l = false) ∨ (Fn.cl l ≤ 3 ∧ n < 1 ∧ Fn.ends c n l = false) ∨ (Fn.cl l ≤ 3 ∧ ¬ n < 1 ∧ ¬ n ≤ (Fn.run c (Fn.rs l) : Int) ∧ Fn.ends c n l = false) ∨
    (Fn.cl l ≤ 3 ∧ ¬ n < 1 ∧ n ≤ (Fn.run c (Fn.rs l) : Int) ∧ Fn.ends c n l = Fn.emp ((Fn.rs l).drop (Fn.run c (Fn.rs l)))) := by
  by_cases h1 : Fn.cl l ≤ 3
  · by_cases h2 : n < 1
    · exact .inr (.inl ⟨h1, h2, Fn.ends_no (fun h => by omega)⟩)
    · by_cases h3 : n ≤ (Fn.run c (Fn.rs l) : Int)
      · exact .inr (.inr (.inr ⟨h1, h2, h3, Fn.ends_is ⟨by omega, h1, h3⟩⟩))
      · exact .inr (.inr (.inl ⟨h1, h2, h3, Fn.ends_no (fun h => h3 h.2.2)⟩))
  · exact .inl ⟨h1, Fn.ends_no (fun h => h1 h.2.1)⟩

theorem rs_len (l : List UInt8) : (Fn.rs l).length ≤ l.length := by unfold Fn.rs; rw [List.length_drop]; omega

set_option maxHeartbeats 2000000 in
theorem ends_any (c : UInt8) (n i : Int) (s : ByteArray) (l : List UInt8) (w : World) (hl : l.length ≤ 140737488355328) :
    Calls Tryd.prog 34 #[fv c n i s, .string (bs l)] w fun e w' => e = .returned (.bool (Fn.ends c n l)) ∧ Below w.heap.size w w' := by
  have hi := fun w => inner_any l w hl
  have hle := rs_len l
  have hrun := fun w => run_any (Fn.rs l) c w (by omega)
  have hrl := Fn.run_le c (Fn.rs l)
  have hem := fun w => empty_any ((Fn.rs l).drop (Fn.run c (Fn.rs l))) w (by rw [List.length_drop]; omega)
  have hed : decide ((Cl.lead Cl.inf ((Fn.rs l).drop (Fn.run c (Fn.rs l))) 0).2 = ((Fn.rs l).drop (Fn.run c (Fn.rs l))).length) = Fn.emp ((Fn.rs l).drop (Fn.run c (Fn.rs l))) := rfl
  rw [hed] at hem
  have hsl := run_from (S := Fn.rs l) (i := Fn.run c (Fn.rs l)) hrl
  have ht := ends_tests c n l
  clear hed
  obtain ⟨N, hN⟩ : ∃ N, Fn.run c (Fn.rs l) = N := ⟨_, rfl⟩
  obtain ⟨C, hC⟩ : ∃ C, Fn.cl l = C := ⟨_, rfl⟩
  obtain ⟨S, hS⟩ : ∃ S, Fn.rs l = S := ⟨_, rfl⟩
  rw [hN] at hrun hrl hem hsl ht
  rw [hC] at hi ht
  rw [hS] at hi hle hrun hrl hem hsl ht
  clear hN hC hS
  rcases ht with ⟨h1, he⟩ | ⟨h1, h2, he⟩ | ⟨h1, h2, h3, he⟩ | ⟨h1, h2, h3, he⟩
  · have hd : decide ((C : Int) ≤ 3) = false := by simp; omega
    rw [hd] at hi
    replace he := Lib.hid he
    clear hd h1
    unfold fv
    go_enter Tryd.func34, Tryd.ntmps34
    go_wp2_with fail
    refine (hi _).mono ?_
    rintro e w1 ⟨rfl, hb1⟩
    replace hb1 := Lib.hid (ext_trans (ext_alloc _ _) hb1)
    go_wp2
    go_ret
    exact ⟨by rw [he.out]; rfl, hb1.out⟩
  · have hd : decide ((C : Int) ≤ 3) = true := by simp; omega
    rw [hd] at hi
    replace he := Lib.hid he
    clear hd h1
    unfold fv
    go_enter Tryd.func34, Tryd.ntmps34
    go_wp2_with fail
    refine (hi _).mono ?_
    rintro e w1 ⟨rfl, hb1⟩
    obtain ⟨k0, k1, k2, k3, k4⟩ := blk_open hb1
    replace hb1 := Lib.hid (ext_trans (ext_alloc _ _) hb1)
    go_wp2
    go_ret
    exact ⟨by rw [he.out]; rfl, hb1.out⟩
  · have hd : decide ((C : Int) ≤ 3) = true := by simp; omega
    rw [hd] at hi
    replace he := Lib.hid he
    clear hd h1
    unfold fv
    go_enter Tryd.func34, Tryd.ntmps34
    go_wp2_with fail
    refine (hi _).mono ?_
    rintro e w1 ⟨rfl, hb1⟩
    obtain ⟨k0, k1, k2, k3, k4⟩ := blk_open hb1
    replace hb1 := Lib.hid (ext_trans (ext_alloc _ _) hb1)
    go_wp2_with fail
    refine (hrun _).mono ?_
    rintro e w' ⟨rfl, rfl⟩
    go_wp2
    go_ret
    exact ⟨by rw [he.out]; rfl, hb1.out⟩
  · have hd : decide ((C : Int) ≤ 3) = true := by simp; omega
    rw [hd] at hi
    replace he := Lib.hid he
    clear hd h1
    unfold fv
    go_enter Tryd.func34, Tryd.ntmps34
    go_wp2_with fail
    refine (hi _).mono ?_
    rintro e w1 ⟨rfl, hb1⟩
    obtain ⟨k0, k1, k2, k3, k4⟩ := blk_open hb1
    replace hb1 := Lib.hid (ext_trans (ext_alloc _ _) hb1)
    go_wp2_with fail
    refine (hrun _).mono ?_
    rintro e w' ⟨rfl, rfl⟩
    go_wp2_with fail
    refine (hem _).mono ?_
    rintro e w' ⟨rfl, rfl⟩
    go_wp2
    go_ret
    exact ⟨by rw [he.out]; rfl, hb1.out⟩

theorem fn_place_sum {l : List UInt8} {K n : Nat} (h : K + n ≤ l.length) (w : World) :
    (Instr.slice 9 (.string (bs l)) (some (.int .i64 ((K : Int) + (n : Int)))) none none).run Tryd.prog w = .ok (.string (bs ((l.drop K).drop n))) w := by
  have := run_from (S := l) (i := K + n) h w
  rw [Int.natCast_add] at this
  rw [this, List.drop_drop]

end Go.Proofs.YtmbcddehacfpgaaDoor
