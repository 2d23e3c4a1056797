/- Package fence and the document's own answer: the line that ends a fence. -/
import Derived.Test.YtcdpecpjhoejnaaDoorFnLib
namespace Go.Proofs.YtcdpecpjhoejnaaDoor
open Go.RowKit

/-- a fence as a value: its sign, its count, and what doesn't matter -/
def fv (c : UInt8) (n i : Int) (s : ByteArray) : Value := .agg #[.int .u8 (c.toNat : Int), .int .i64 n, .int .i64 i, .string s]

theorem ends_tests (c : UInt8) (n : Int) (l : List UInt8) :
    (¬ Fn.cl l ≤ 3 ∧ Fn.ends c n l = false) ∨ (Fn.cl l ≤ 3 ∧ n < 1 ∧ Fn.ends c n l = false) ∨ (Fn.cl l ≤ 3 ∧ ¬ n < 1 ∧ ¬ n ≤ (Fn.run c (Fn.rs l) : Int) ∧ Fn.ends c n l = false) ∨
    (Fn.cl l ≤ 3 ∧ ¬ n < 1 ∧ n ≤ (Fn.run c (Fn.rs l) : Int) ∧ Fn.ends c n l = Fn.emp ((Fn.rs l).drop (Fn.run c (Fn.rs l)))) := by
  by_cases h1 : Fn.cl l ≤ 3
  · by_cases h2 : n < 1
    · exact .inr (.inl ⟨h1, h2, Fn.ends_no (fun h => by omega)⟩)
    · by_cases h3 : n ≤ (Fn.run c (Fn.rs l) : Int)
      · exact .inr (.inr (.inr ⟨h1, h2, h3, Fn.ends_is ⟨by omega, h1, h3⟩⟩))
      · exact .inr (.inr (.inl ⟨h1, h2, h3, Fn.ends_no (fun h => h3 h.2.2)⟩))
  · exact .inl ⟨h1, Fn.ends_no (fun h => h1 h.2.1)⟩

theorem rs_len (l : List UInt8) : (Fn.rs l).length ≤ l.length := by unfold Fn.rs; rw [List.length_drop]; omega

set_option maxHeartbeats 2000000 in
theorem ends_any (c : UInt8) (n i : Int) (s : ByteArray) (l : List UInt8) (w : World) (hl : l.length ≤ 140737488355328) :
    Calls Tryd.prog 11 #[fv c n i s, .string (bs l)] w fun e w' => e = .returned (.bool (Fn.ends c n l)) ∧ Below w.heap.size w w' := by
  have hi := fun w => inner_any l w hl
  have hle := rs_len l
  have hrun := fun w => run_any (Fn.rs l) c w (by omega)
  have hrl := Fn.run_le c (Fn.rs l)
  have hem := fun w => empty_any ((Fn.rs l).drop (Fn.run c (Fn.rs l))) w (by rw [List.length_drop]; omega)
  have hed : decide ((Cl.lead Cl.inf ((Fn.rs l).drop (Fn.run c (Fn.rs l))) 0).2 = ((Fn.rs l).drop (Fn.run c (Fn.rs l))).length) = Fn.emp ((Fn.rs l).drop (Fn.run c (Fn.rs l))) := rfl
  rw [hed] at hem
  have hsl := run_from (S := Fn.rs l) (i := Fn.run c (Fn.rs l)) hrl
  have ht := ends_tests c n l
  clear hed
  obtain ⟨N, hN⟩ : ∃ N, Fn.run c (Fn.rs l) = N := ⟨_, rfl⟩
  obtain ⟨C, hC⟩ : ∃ C, Fn.cl l = C := ⟨_, rfl⟩
  obtain ⟨S, hS⟩ : ∃ S, Fn.rs l = S := ⟨_, rfl⟩
  rw [hN] at hrun hrl hem hsl ht
  rw [hC] at hi ht
  rw [hS] at hi hle hrun hrl hem hsl ht
  clear hN hC hS
  rcases ht with ⟨h1, he⟩ | ⟨h1, h2, he⟩ | ⟨h1, h2, h3, he⟩ | ⟨h1, h2, h3, he⟩
  · have hd : decide ((C : Int) ≤ 3) = false := by simp; omega
    rw [hd] at hi
    replace he := Lib.hid he
    clear hd h1
    unfold fv
    go_enter Tryd.func11, Tryd.ntmps11
    go_wp2_with fail
    refine (hi _).mono ?_
    rintro e w1 ⟨rfl, hb1⟩
    replace hb1 := Lib.hid (ext_trans (ext_alloc _ _) hb1)
    go_wp2
    go_ret
    exact ⟨by rw [he.out]; rfl, hb1.out⟩
  · have hd : decide ((C : Int) ≤ 3) = true := by simp; omega
    rw [hd] at hi
    replace he := Lib.hid he
    clear hd h1
    unfold fv
    go_enter Tryd.func11, Tryd.ntmps11
    go_wp2_with fail
    refine (hi _).mono ?_
    rintro e w1 ⟨rfl, hb1⟩
    obtain ⟨k0, k1, k2, k3, k4⟩ := blk_open hb1
    replace hb1 := Lib.hid (ext_trans (ext_alloc _ _) hb1)
    go_wp2
    go_ret
    exact ⟨by rw [he.out]; rfl, hb1.out⟩
  · have hd : decide ((C : Int) ≤ 3) = true := by simp; omega
    rw [hd] at hi
    replace he := Lib.hid he
    clear hd h1
    unfold fv
    go_enter Tryd.func11, Tryd.ntmps11
    go_wp2_with fail
    refine (hi _).mono ?_
    rintro e w1 ⟨rfl, hb1⟩
    obtain ⟨k0, k1, k2, k3, k4⟩ := blk_open hb1
    replace hb1 := Lib.hid (ext_trans (ext_alloc _ _) hb1)
    go_wp2_with fail
    refine (hrun _).mono ?_
    rintro e w' ⟨rfl, rfl⟩
    go_wp2
    go_ret
    exact ⟨by rw [he.out]; rfl, hb1.out⟩
  · have hd : decide ((C : Int) ≤ 3) = true := by simp; omega
    rw [hd] at hi
    replace he := Lib.hid he
    clear hd h1
    unfold fv
    go_enter Tryd.func11, Tryd.ntmps11
    go_wp2_with fail
    refine (hi _).mono ?_
    rintro e w1 ⟨rfl, hb1⟩
    obtain ⟨k0, k1, k2, k3, k4⟩ := blk_open hb1
    replace hb1 := Lib.hid (ext_trans (ext_alloc _ _) hb1)
    go_wp2_with fail
    refine (hrun _).mono ?_
    rintro e w' ⟨rfl, rfl⟩
    go_wp2_with fail
    refine (hem _).mono ?_
    rintro e w' ⟨rfl, rfl⟩
    go_wp2
    go_ret
    exact ⟨by rw [he.out]; rfl, hb1.out⟩

theorem place_sum {l : List UInt8} {K n : Nat} (h : K + n ≤ l.length) (w : World) :
    (Instr.slice 9 (.string (bs l)) (some (.int .i64 ((K : Int) + (n : Int)))) none none).run Tryd.prog w = .ok (.string (bs ((l.drop K).drop n))) w := by
  have := run_from (S := l) (i := K + n) h w
  rw [Int.natCast_add] at this
  rw [this, List.drop_drop]

set_option maxHeartbeats 2000000 in
theorem rends_any (c : UInt8) (n i : Int) (s : ByteArray) (l : List UInt8) (w : World) (hl : l.length ≤ 140737488355328) :
    Calls Tryd.prog 12 #[fv c n i s, .string (bs l)] w fun e w' => e = .returned (.bool (Fn.ends c n l)) ∧ Below w.heap.size w w' := by
  have hi := fun w => rindent_any l w hl
  have hll := Cl.lead_le Cl.inf l 0
  have hle := rs_len l
  have hcl : Fn.cl l = (Cl.lead Cl.inf l 0).1 := rfl
  have hrs : Fn.rs l = l.drop (Cl.lead Cl.inf l 0).2 := rfl
  have ht := ends_tests c n l
  rw [hcl, hrs] at ht
  rw [hrs] at hle
  clear hcl hrs
  obtain ⟨C, K, hCK⟩ : ∃ C K, Cl.lead Cl.inf l 0 = (C, K) := ⟨_, _, rfl⟩
  rw [hCK] at hi hll ht hle
  simp only at hi hll ht hle
  clear hCK
  have hrun := fun w => rrun_any l K c w hl (by omega)
  have hrl := Fn.run_le c (l.drop K)
  rw [List.length_drop] at hrl
  have hem := fun w => rempty_any ((l.drop K).drop (Fn.run c (l.drop K))) w (by rw [List.length_drop]; omega)
  have hed : decide ((Cl.lead Cl.inf ((l.drop K).drop (Fn.run c (l.drop K))) 0).2 = ((l.drop K).drop (Fn.run c (l.drop K))).length) = Fn.emp ((l.drop K).drop (Fn.run c (l.drop K))) := rfl
  rw [hed] at hem
  have hsl := place_sum (l := l) (K := K) (n := Fn.run c (l.drop K)) (by omega)
  clear hed
  obtain ⟨N, hN⟩ : ∃ N, Fn.run c (l.drop K) = N := ⟨_, rfl⟩
  rw [hN] at hrun hrl hem hsl ht
  clear hN hle
  obtain ⟨T, hT⟩ : ∃ T, (l.drop K).drop N = T := ⟨_, rfl⟩
  rw [hT] at hem hsl ht
  clear hT
  replace ht : (decide ((0 : Int) < n) = false ∧ Fn.ends c n l = false) ∨ (decide ((0 : Int) < n) = true ∧ decide ((C : Int) ≤ 3) = false ∧ Fn.ends c n l = false) ∨
      (decide ((0 : Int) < n) = true ∧ decide ((C : Int) ≤ 3) = true ∧ decide (n ≤ (N : Int)) = false ∧ Fn.ends c n l = false) ∨
      (decide ((0 : Int) < n) = true ∧ decide ((C : Int) ≤ 3) = true ∧ decide (n ≤ (N : Int)) = true ∧ Fn.ends c n l = Fn.emp T) := by
    simp only [decide_eq_false_iff_not, decide_eq_true_eq]
    rcases ht with ⟨h1, he⟩ | ⟨h1, h2, he⟩ | ⟨h1, h2, h3, he⟩ | ⟨h1, h2, h3, he⟩
    · by_cases h0 : 0 < n
      · exact .inr (.inl ⟨h0, by omega, he⟩)
      · exact .inl ⟨h0, he⟩
    · exact .inl ⟨by omega, he⟩
    · exact .inr (.inr (.inl ⟨by omega, by omega, h3, he⟩))
    · exact .inr (.inr (.inr ⟨by omega, by omega, h3, he⟩))
  unfold fv
  rcases ht with ⟨g0, he⟩ | ⟨g0, g1, he⟩ | ⟨g0, g1, g2, he⟩ | ⟨g0, g1, g2, he⟩
  · replace he := Lib.hid he
    go_enter Tryd.func12, Tryd.ntmps12
    go_wp2_with fail
    refine (hi _).mono ?_
    rintro e w' ⟨rfl, rfl⟩
    go_wp2_with fail
    refine (hrun _).mono ?_
    rintro e w' ⟨rfl, rfl⟩
    go_wp2
    go_ret
    exact ⟨by rw [he.out]; rfl, ext_alloc _ _⟩
  · replace he := Lib.hid he
    go_enter Tryd.func12, Tryd.ntmps12
    go_wp2_with fail
    refine (hi _).mono ?_
    rintro e w' ⟨rfl, rfl⟩
    go_wp2_with fail
    refine (hrun _).mono ?_
    rintro e w' ⟨rfl, rfl⟩
    go_wp2
    go_ret
    exact ⟨by rw [he.out]; rfl, ext_alloc _ _⟩
  · replace he := Lib.hid he
    go_enter Tryd.func12, Tryd.ntmps12
    go_wp2_with fail
    refine (hi _).mono ?_
    rintro e w' ⟨rfl, rfl⟩
    go_wp2_with fail
    refine (hrun _).mono ?_
    rintro e w' ⟨rfl, rfl⟩
    go_wp2
    go_ret
    exact ⟨by rw [he.out]; rfl, ext_alloc _ _⟩
  · replace he := Lib.hid he
    go_enter Tryd.func12, Tryd.ntmps12
    go_wp2_with fail
    refine (hi _).mono ?_
    rintro e w' ⟨rfl, rfl⟩
    go_wp2_with fail
    refine (hrun _).mono ?_
    rintro e w' ⟨rfl, rfl⟩
    go_wp2_with fail
    refine (hem _).mono ?_
    rintro e w' ⟨rfl, rfl⟩
    go_wp2
    go_ret
    exact ⟨by rw [he.out]; rfl, ext_alloc _ _⟩
end Go.Proofs.YtcdpecpjhoejnaaDoor
