/- The document's own answer of chapter 6: headings, breaks, quotes, items. -/
import Derived.Test.YtkhaijcaeoclaaaDoorLfMath
import Derived.Test.YtkhaijcaeoclaaaDoorFnFns
import Derived.Test.YtkhaijcaeoclaaaDoorClRStrip
import Derived.Deep.QuietTactic
import Derived.BigQuiet
namespace Go.Proofs.YtkhaijcaeoclaaaDoor
open Go.RowKit

theorem drop_cons {l r : List UInt8} {c : UInt8} {K : Nat} (h : l.drop K = c :: r) : ∃ hk : K < l.length, l[K] = c := by
  have hk : K < l.length := by
    rcases Nat.lt_or_ge K l.length with h' | h'
    · exact h'
    · rw [List.drop_eq_nil_of_le h'] at h; cases h
  refine ⟨hk, ?_⟩
  rw [List.drop_eq_getElem_cons hk] at h
  injection h
theorem place_byte {l r : List UInt8} {c : UInt8} {K : Nat} (h : l.drop K = c :: r) (w : World) :
    (Instr.index 9 (.string (bs l)) (.int .i64 (K : Int))).run Tryd.prog w = .ok (.int .u8 (c.toNat : Int)) w := by
  obtain ⟨hk, rfl⟩ := drop_cons h
  exact run_byte hk w
theorem tail_from {l : List UInt8} {K n : Nat} (h : K + n ≤ l.length) (w : World) :
    (Instr.slice 9 (.string (bs l)) (some (.int .i64 ((K : Int) + (n : Int)))) none none).run Tryd.prog w = .ok (.string (bs ((l.drop K).drop n))) w := by
  have := run_from (S := l) (i := K + n) h w
  rw [Int.natCast_add] at this
  rw [this, List.drop_drop]

theorem ne_of_eq {a b : Int} (h : (a == b) = true) : (a != b) = false := by rw [bne, h]; rfl
theorem ne_of_ne {a b : Int} (h : (a == b) = false) : (a != b) = true := by rw [bne, h]; rfl
theorem ruler_tests (c : UInt8) : (((c.toNat : Int) == 42) = true ∧ Lf.ruler c = true) ∨ (((c.toNat : Int) == 42) = false ∧ ((c.toNat : Int) == 45) = true ∧ Lf.ruler c = true) ∨
    (((c.toNat : Int) == 42) = false ∧ ((c.toNat : Int) == 45) = false ∧ ((c.toNat : Int) == 95) = true ∧ Lf.ruler c = true) ∨
    (((c.toNat : Int) == 42) = false ∧ ((c.toNat : Int) == 45) = false ∧ ((c.toNat : Int) == 95) = false ∧ Lf.ruler c = false) := by
  by_cases h : c = 42
  · exact .inl ⟨byte_eq (n := 42) (by omega) h, by subst h; rfl⟩
  · have h1 := byte_ne (n := 42) (by omega) h
    by_cases h' : c = 45
    · exact .inr (.inl ⟨h1, byte_eq (n := 45) (by omega) h', by subst h'; rfl⟩)
    · have h2 := byte_ne (n := 45) (by omega) h'
      by_cases h'' : c = 95
      · exact .inr (.inr (.inl ⟨h1, h2, byte_eq (n := 95) (by omega) h'', by subst h''; rfl⟩))
      · exact .inr (.inr (.inr ⟨h1, h2, byte_ne (n := 95) (by omega) h'', by simp [Lf.ruler, h, h', h'']⟩))
theorem bullet_tests (c : UInt8) : (((c.toNat : Int) == 42) = true ∧ Lf.bullet c = true) ∨ (((c.toNat : Int) == 42) = false ∧ ((c.toNat : Int) == 45) = true ∧ Lf.bullet c = true) ∨
    (((c.toNat : Int) == 42) = false ∧ ((c.toNat : Int) == 45) = false ∧ ((c.toNat : Int) == 43) = true ∧ Lf.bullet c = true) ∨
    (((c.toNat : Int) == 42) = false ∧ ((c.toNat : Int) == 45) = false ∧ ((c.toNat : Int) == 43) = false ∧ Lf.bullet c = false) := by
  by_cases h : c = 42
  · exact .inl ⟨byte_eq (n := 42) (by omega) h, by subst h; rfl⟩
  · have h1 := byte_ne (n := 42) (by omega) h
    by_cases h' : c = 45
    · exact .inr (.inl ⟨h1, byte_eq (n := 45) (by omega) h', by subst h'; rfl⟩)
    · have h2 := byte_ne (n := 45) (by omega) h'
      by_cases h'' : c = 43
      · exact .inr (.inr (.inl ⟨h1, h2, byte_eq (n := 43) (by omega) h'', by subst h''; rfl⟩))
      · exact .inr (.inr (.inr ⟨h1, h2, byte_ne (n := 43) (by omega) h'', by simp [Lf.bullet, h, h', h'']⟩))

/-- from a place on -/
theorem along_at {l : List UInt8} {c : UInt8} {k : Nat} (hk : k < l.length) : (l.drop k).all (Lf.along c) = (Lf.along c l[k] && (l.drop (k + 1)).all (Lf.along c)) := by
  rw [List.drop_eq_getElem_cons hk, List.all_cons]
theorem count_at {l : List UInt8} {c : UInt8} {k : Nat} (hk : k < l.length) : (l.drop k).count c = (l.drop (k + 1)).count c + (if l[k] = c then 1 else 0) := by
  rw [List.drop_eq_getElem_cons hk, List.count_cons]
  simp

theorem rbrk_no (l : List UInt8) (C K : Nat) (w : World) (hn : Hid (Lf.brk l = false))
    (hi : ∀ w, Calls Tryd.prog 28 #[.string (bs l)] w fun e w' => e = .returned (.tuple #[.int .i64 (C : Int), .int .i64 (K : Int)]) ∧ w = w')
    (hb : 3 < C ∨ (C ≤ 3 ∧ K = l.length) ∨ (C ≤ 3 ∧ ∃ c r, l.drop K = c :: r ∧ Lf.ruler c = false)) :
    Calls Tryd.prog 18 #[.string (bs l)] w fun e w' => e = .returned (.bool (Lf.brk l)) ∧ Below w.heap.size w w' := by
  have hsz := bs_size l
  rcases hb with h | ⟨h, hk⟩ | ⟨h, c, r, hr, hc⟩
  · have h3 : decide ((3 : Int) < (C : Int)) = true := by simp; omega
    go_enter Tryd.func18, Tryd.ntmps18
    go_wp2_with fail
    refine (hi _).mono ?_
    rintro e w1 ⟨rfl, rfl⟩
    go_wp2_with fail
    go_ret
    exact ⟨by rw [hn.out]; rfl, Below.refl _ _⟩
  · have h3 : decide ((3 : Int) < (C : Int)) = false := by simp; omega
    have hKe : ((K : Int) == (l.length : Int)) = true := by rw [beq_iff_eq]; omega
    clear hk
    go_enter Tryd.func18, Tryd.ntmps18
    go_wp2_with fail
    refine (hi _).mono ?_
    rintro e w1 ⟨rfl, rfl⟩
    go_wp2_with fail
    go_ret
    exact ⟨by rw [hn.out]; rfl, Below.refl _ _⟩
  · have h3 : decide ((3 : Int) < (C : Int)) = false := by simp; omega
    obtain ⟨hk, _⟩ := drop_cons hr
    have hKe : ((K : Int) == (l.length : Int)) = false := by rw [beq_eq_false_iff_ne]; omega
    have hx := place_byte hr
    rcases ruler_tests c with ⟨_, h⟩ | ⟨_, _, h⟩ | ⟨_, _, _, h⟩ | ⟨t1, t2, t3, _⟩
    · rw [h] at hc; cases hc
    · rw [h] at hc; cases hc
    · rw [h] at hc; cases hc
    · have n1 := ne_of_ne t1
      have n2 := ne_of_ne t2
      have n3 := ne_of_ne t3
      clear hc hr
      go_enter Tryd.func18, Tryd.ntmps18
      go_wp2_with fail
      refine (hi _).mono ?_
      rintro e w1 ⟨rfl, rfl⟩
      go_wp2_with fail
      go_ret
      exact ⟨by rw [hn.out]; rfl, Below.refl _ _⟩

set_option maxHeartbeats 2000000 in
theorem rbrk_run (l r : List UInt8) (c : UInt8) (C K : Nat) (w : World) (hn : Hid (Lf.brk l = ((c :: r).all (Lf.along c) && decide (3 ≤ (c :: r).count c)))) (hl : l.length ≤ 140737488355328)
    (hi : ∀ w, Calls Tryd.prog 28 #[.string (bs l)] w fun e w' => e = .returned (.tuple #[.int .i64 (C : Int), .int .i64 (K : Int)]) ∧ w = w')
    (h : C ≤ 3) (hr : l.drop K = c :: r) (hc : Lf.ruler c = true) :
    Calls Tryd.prog 18 #[.string (bs l)] w fun e w' => e = .returned (.bool (Lf.brk l)) ∧ Below w.heap.size w w' := by
  have hsz := bs_size l
  have h3 : decide ((3 : Int) < (C : Int)) = false := by simp; omega
  obtain ⟨hk, _⟩ := drop_cons hr
  have hKe : ((K : Int) == (l.length : Int)) = false := by rw [beq_eq_false_iff_ne]; omega
  have hx := place_byte hr
  rw [← hr] at hn
  clear hr
  rcases ruler_tests c with ⟨t1, _⟩ | ⟨t1, t2, _⟩ | ⟨t1, t2, t3, _⟩ | ⟨_, _, _, h⟩
  case inr.inr.inr => rw [h] at hc; cases hc
  all_goals
    first
      | (have n1 := ne_of_ne t1; have n2 := ne_of_ne t2; have n3 := ne_of_eq t3)
      | (have n1 := ne_of_ne t1; have n2 := ne_of_eq t2)
      | have n1 := ne_of_eq t1
    clear hc
    go_enter Tryd.func18, Tryd.ntmps18
    go_wp2_with fail
    refine (hi _).mono ?_
    rintro e w1 ⟨rfl, rfl⟩
    clear hi
    go_wp2_with fail
    go_loopw [5, 6] (fun u v wr => ∃ n k : Nat, Below w.heap.size w wr ∧ k ≤ l.length ∧ n ≤ k ∧ u = .int .i64 (n : Int) ∧ v = .int .i64 (k : Int) ∧ Hid (Lf.brk l = ((l.drop k).all (Lf.along c) && decide (3 ≤ n + (l.drop k).count c)))) (fun _ v _ => l.length - (intOf v).toNat)
    case atStart => exact ⟨0, K, Below.refl _ _, by omega, by omega, rfl, rfl, Lib.hid (by rw [hn.out, Nat.zero_add])⟩
    case round =>
      obtain ⟨n, k, hb0, hk2, hnk, rfl, rfl, hf⟩ := hrel
      rcases Nat.lt_or_eq_of_le hk2 with hlt | rfl
      · have hx2 := run_byte hlt
        have ha := along_at (c := c) hlt
        have hcn := count_at (c := c) hlt
        obtain ⟨b, hb⟩ : ∃ b, l[k] = b := ⟨_, rfl⟩
        rw [hb] at hx2 ha hcn
        clear hb
        by_cases hbc : b = c
        · have he := byte_same hbc
          have hf2 : Hid (Lf.brk l = ((l.drop (k + 1)).all (Lf.along c) && decide (3 ≤ (n + 1) + (l.drop (k + 1)).count c))) := Lib.hid (by
            rw [hf.out, ha, hcn, if_pos hbc, show Lf.along c b = true from by simp [Lf.along, hbc], Bool.true_and, show n + (List.count c (l.drop (k + 1)) + 1) = n + 1 + List.count c (l.drop (k + 1)) from by omega])
          clear ha hcn hbc
          go_wp2_with fail
          go_quiet (fail)
          go_wp2_with fail
          go_roundw
          case rel => exact ⟨n + 1, k + 1, below_drewN hb0 _, by omega, by omega, by go_num, by go_num, hf2⟩
          case measure => simp [intOf]; omega
        · have he := byte_diff hbc
          rcases gap_tests b with ⟨g1, g3⟩ | ⟨g1, g2, g3⟩ | ⟨g1, g2, g3⟩
          case inr.inr =>
            have g1' := ne_of_ne g1
            have g2' := ne_of_ne g2
            have hfin : Hid (Lf.brk l = false) := Lib.hid (by rw [hf.out, ha, show Lf.along c b = false from by simp [Lf.along, hbc, g3], Bool.false_and, Bool.false_and])
            clear ha hcn hbc
            go_wp2_with fail
            go_quiet (fail)
            go_wp2_with fail
            go_returns
            exact ⟨by rw [hfin.out]; rfl, below_drewN hb0 _⟩
          all_goals
            first
              | (have g1' := ne_of_ne g1; have g2' := ne_of_eq g2)
              | have g1' := ne_of_eq g1
            have hf2 : Hid (Lf.brk l = ((l.drop (k + 1)).all (Lf.along c) && decide (3 ≤ n + (l.drop (k + 1)).count c))) := Lib.hid (by
              rw [hf.out, ha, hcn, if_neg hbc, show Lf.along c b = true from by simp [Lf.along, g3], Bool.true_and]; rfl)
            clear ha hcn hbc
            go_wp2_with fail
            go_quiet (fail)
            go_wp2_with fail
            go_roundw
            case rel => exact ⟨n, k + 1, below_drewN hb0 _, by omega, by omega, rfl, by go_num, hf2⟩
            case measure => simp [intOf]; omega
      · have hfin : Hid (Lf.brk l = decide ((3 : Int) ≤ (n : Int))) := Lib.hid (by
          rw [hf.out, List.drop_length]
          simp only [List.all_nil, List.count_nil, Bool.true_and, Nat.add_zero]
          exact decide_eq_decide.2 (by omega))
        go_wp2_with fail
        go_returns
        exact ⟨by rw [hfin.out]; rfl, hb0⟩

theorem rbrk_any (l : List UInt8) (w : World) (hl : l.length ≤ 140737488355328) :
    Calls Tryd.prog 18 #[.string (bs l)] w fun e w' => e = .returned (.bool (Lf.brk l)) ∧ Below w.heap.size w w' := by
  have hi := fun w => rindent_any l w hl
  have hle := Cl.lead_le Cl.inf l 0
  have hcl : Fn.cl l = (Cl.lead Cl.inf l 0).1 := rfl
  have hrs : Fn.rs l = l.drop (Cl.lead Cl.inf l 0).2 := rfl
  obtain ⟨C, K, hCK⟩ : ∃ C K, Cl.lead Cl.inf l 0 = (C, K) := ⟨_, _, rfl⟩
  rw [hCK] at hi hle hcl hrs
  simp only at hi hle hcl hrs
  clear hCK
  by_cases hC : C ≤ 3
  · rcases hR : l.drop K with _ | ⟨c, r⟩
    · have hk : K = l.length := by
        have := congrArg List.length hR
        rw [List.length_drop] at this
        simp at this; omega
      exact rbrk_no l C K w (Lib.hid (Lf.brk_nil (hrs.trans hR))) hi (.inr (.inl ⟨hC, hk⟩))
    · have hb := Lf.brk_cons (hrs.trans hR) (by omega)
      cases hc : Lf.ruler c with
      | true => exact rbrk_run l r c C K w (Lib.hid (by rw [hb, hc, Bool.true_and])) hl hi hC hR hc
      | false => exact rbrk_no l C K w (Lib.hid (by rw [hb, hc, Bool.false_and, Bool.false_and])) hi (.inr (.inr ⟨hC, c, r, hR, hc⟩))
  · exact rbrk_no l C K w (Lib.hid (Lf.brk_far (by omega))) hi (.inl (by omega))
end Go.Proofs.YtkhaijcaeoclaaaDoor
