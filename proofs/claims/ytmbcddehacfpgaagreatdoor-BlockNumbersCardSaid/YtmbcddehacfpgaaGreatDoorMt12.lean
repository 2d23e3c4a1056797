/- The document's own answer of chapter 6: headings, breaks, quotes, items. The document's own answer of chapter 6: quotes and headings. The document's own answer of chapter 6: items. Law 6: the values that the functions of a line give, written out. -/
import Derived.Test.YtmbcddehacfpgaaGreatDoorMt02
import Derived.Test.YtmbcddehacfpgaaGreatDoorMt11
import Derived.Test.YtmbcddehacfpgaaGreatDoorMt10
import Derived.Deep.QuietTactic
import Derived.BigQuiet
namespace Go.Proofs.YtmbcddehacfpgaaGreatDoor
open Go.RowKit

theorem drop_cons {l r : List UInt8} {c : UInt8} {K : Nat} (h : l.drop K = c :: r) : ∃ hk : K < l.length, l[K] = c := by
  have hk : K < l.length := by
    rcases Nat.lt_or_ge K l.length with h' | h'
    · exact h'
    · rw [List.drop_eq_nil_of_le h'] at h; cases h
  refine ⟨hk, ?_⟩
  rw [List.drop_eq_getElem_cons hk] at h
  injection h
theorem place_byte {l r : List UInt8} {c : UInt8} {K : Nat} (h : l.drop K = c :: r) (w : World) :
    (Instr.index 9 (.string (bs l)) (.int .i64 (K : Int))).run Tryz.prog w = .ok (.int .u8 (c.toNat : Int)) w := by
  obtain ⟨hk, rfl⟩ := drop_cons h
  exact run_byte hk w
theorem tail_from {l : List UInt8} {K n : Nat} (h : K + n ≤ l.length) (w : World) :
    (Instr.slice 9 (.string (bs l)) (some (.int .i64 ((K : Int) + (n : Int)))) none none).run Tryz.prog w = .ok (.string (bs ((l.drop K).drop n))) w := by
  have := run_from (S := l) (i := K + n) h w
  rw [Int.natCast_add] at this
  rw [this, List.drop_drop]

theorem ne_of_eq {a b : Int} (h : (a == b) = true) : (a != b) = false := by rw [bne, h]; rfl
theorem ne_of_ne {a b : Int} (h : (a == b) = false) : (a != b) = true := by rw [bne, h]; rfl
theorem ruler_tests (c : UInt8) : (((c.toNat : Int) == 42) = true ∧ Lf.ruler c = true) ∨ (((c.toNat : Int) == 42) = false ∧ ((c.toNat : Int) == 45) = true ∧ Lf.ruler c = true) ∨
    (((c.toNat : Int) == 42) = false ∧ ((c.toNat : Int) == 45) = false ∧ ((c.toNat : Int) == 95) = true ∧ Lf.ruler c = true) ∨
    (((c.toNat : Int) == 42) = false ∧ ((c.toNat : Int) == 45) = false ∧ ((c.toNat : Int) == 95) = false ∧ Lf.ruler c = false) := by
  by_cases h : c = 42
  · exact .inl ⟨byte_eq (n := 42) (by omega) h, by subst h; rfl⟩
  · have h1 := byte_ne (n := 42) (by omega) h
    by_cases h' : c = 45
    · exact .inr (.inl ⟨h1, byte_eq (n := 45) (by omega) h', by subst h'; rfl⟩)
    · have h2 := byte_ne (n := 45) (by omega) h'
      by_cases h'' : c = 95
      · exact .inr (.inr (.inl ⟨h1, h2, byte_eq (n := 95) (by omega) h'', by subst h''; rfl⟩))
      · exact .inr (.inr (.inr ⟨h1, h2, byte_ne (n := 95) (by omega) h'', by simp [Lf.ruler, h, h', h'']⟩))
theorem bullet_tests (c : UInt8) : (((c.toNat : Int) == 42) = true ∧ Lf.bullet c = true) ∨ (((c.toNat : Int) == 42) = false ∧ ((c.toNat : Int) == 45) = true ∧ Lf.bullet c = true) ∨
    (((c.toNat : Int) == 42) = false ∧ ((c.toNat : Int) == 45) = false ∧ ((c.toNat : Int) == 43) = true ∧ Lf.bullet c = true) ∨
    (((c.toNat : Int) == 42) = false ∧ ((c.toNat : Int) == 45) = false ∧ ((c.toNat : Int) == 43) = false ∧ Lf.bullet c = false) := by
  by_cases h : c = 42
  · exact .inl ⟨byte_eq (n := 42) (by omega) h, by subst h; rfl⟩
  · have h1 := byte_ne (n := 42) (by omega) h
    by_cases h' : c = 45
    · exact .inr (.inl ⟨h1, byte_eq (n := 45) (by omega) h', by subst h'; rfl⟩)
    · have h2 := byte_ne (n := 45) (by omega) h'
      by_cases h'' : c = 43
      · exact .inr (.inr (.inl ⟨h1, h2, byte_eq (n := 43) (by omega) h'', by subst h''; rfl⟩))
      · exact .inr (.inr (.inr ⟨h1, h2, byte_ne (n := 43) (by omega) h'', by simp [Lf.bullet, h, h', h'']⟩))

/-- from a place on -/
theorem along_at {l : List UInt8} {c : UInt8} {k : Nat} (hk : k < l.length) : (l.drop k).all (Lf.along c) = (Lf.along c l[k] && (l.drop (k + 1)).all (Lf.along c)) := by
  rw [List.drop_eq_getElem_cons hk, List.all_cons]
theorem count_at {l : List UInt8} {c : UInt8} {k : Nat} (hk : k < l.length) : (l.drop k).count c = (l.drop (k + 1)).count c + (if l[k] = c then 1 else 0) := by
  rw [List.drop_eq_getElem_cons hk, List.count_cons]
  simp

theorem rbrk_no (l : List UInt8) (C K : Nat) (w : World) (hn : Hid (Lf.brk l = false))
    (hi : ∀ w, Calls Tryz.prog 68 #[.string (bs l)] w fun e w' => e = .returned (.tuple #[.int .i64 (C : Int), .int .i64 (K : Int)]) ∧ w = w')
    (hb : 3 < C ∨ (C ≤ 3 ∧ K = l.length) ∨ (C ≤ 3 ∧ ∃ c r, l.drop K = c :: r ∧ Lf.ruler c = false)) :
    Calls Tryz.prog 73 #[.string (bs l)] w fun e w' => e = .returned (.bool (Lf.brk l)) ∧ Below w.heap.size w w' := by
  have hsz := bs_size l
  rcases hb with h | ⟨h, hk⟩ | ⟨h, c, r, hr, hc⟩
  · have h3 : decide ((3 : Int) < (C : Int)) = true := by simp; omega
    go_enter Tryz.func73, Tryz.ntmps73
    go_wp2_with fail
    refine (hi _).mono ?_
    rintro e w1 ⟨rfl, rfl⟩
    go_wp2_with fail
    go_ret
    exact ⟨by rw [hn.out]; rfl, Below.refl _ _⟩
  · have h3 : decide ((3 : Int) < (C : Int)) = false := by simp; omega
    have hKe : ((K : Int) == (l.length : Int)) = true := by rw [beq_iff_eq]; omega
    clear hk
    go_enter Tryz.func73, Tryz.ntmps73
    go_wp2_with fail
    refine (hi _).mono ?_
    rintro e w1 ⟨rfl, rfl⟩
    go_wp2_with fail
    go_ret
    exact ⟨by rw [hn.out]; rfl, Below.refl _ _⟩
  · have h3 : decide ((3 : Int) < (C : Int)) = false := by simp; omega
    obtain ⟨hk, _⟩ := drop_cons hr
    have hKe : ((K : Int) == (l.length : Int)) = false := by rw [beq_eq_false_iff_ne]; omega
    have hx := place_byte hr
    rcases ruler_tests c with ⟨_, h⟩ | ⟨_, _, h⟩ | ⟨_, _, _, h⟩ | ⟨t1, t2, t3, _⟩
    · rw [h] at hc; cases hc
    · rw [h] at hc; cases hc
    · rw [h] at hc; cases hc
    · have n1 := ne_of_ne t1
      have n2 := ne_of_ne t2
      have n3 := ne_of_ne t3
      clear hc hr
      go_enter Tryz.func73, Tryz.ntmps73
      go_wp2_with fail
      refine (hi _).mono ?_
      rintro e w1 ⟨rfl, rfl⟩
      go_wp2_with fail
      go_ret
      exact ⟨by rw [hn.out]; rfl, Below.refl _ _⟩

set_option maxHeartbeats 2000000 in
theorem rbrk_run (l r : List UInt8) (c : UInt8) (C K : Nat) (w : World) (hn : Hid (Lf.brk l = ((c :: r).all (Lf.along c) && decide (3 ≤ (c :: r).count c)))) (hl : l.length ≤ 140737488355328)
    (hi : ∀ w, Calls Tryz.prog 68 #[.string (bs l)] w fun e w' => e = .returned (.tuple #[.int .i64 (C : Int), .int .i64 (K : Int)]) ∧ w = w')
    (h : C ≤ 3) (hr : l.drop K = c :: r) (hc : Lf.ruler c = true) :
    Calls Tryz.prog 73 #[.string (bs l)] w fun e w' => e = .returned (.bool (Lf.brk l)) ∧ Below w.heap.size w w' := by
  have hsz := bs_size l
  have h3 : decide ((3 : Int) < (C : Int)) = false := by simp; omega
  obtain ⟨hk, _⟩ := drop_cons hr
  have hKe : ((K : Int) == (l.length : Int)) = false := by rw [beq_eq_false_iff_ne]; omega
  have hx := place_byte hr
  rw [← hr] at hn
  clear hr
  rcases ruler_tests c with ⟨t1, _⟩ | ⟨t1, t2, _⟩ | ⟨t1, t2, t3, _⟩ | ⟨_, _, _, h⟩
  case inr.inr.inr => rw [h] at hc; cases hc
  all_goals
    first
      | (have n1 := ne_of_ne t1; have n2 := ne_of_ne t2; have n3 := ne_of_eq t3)
      | (have n1 := ne_of_ne t1; have n2 := ne_of_eq t2)
      | have n1 := ne_of_eq t1
    clear hc
    go_enter Tryz.func73, Tryz.ntmps73
    go_wp2_with fail
    refine (hi _).mono ?_
    rintro e w1 ⟨rfl, rfl⟩
    clear hi
    go_wp2_with fail
    go_loopw [5, 6] (fun u v wr => ∃ n k : Nat, Below w.heap.size w wr ∧ k ≤ l.length ∧ n ≤ k ∧ u = .int .i64 (n : Int) ∧ v = .int .i64 (k : Int) ∧ Hid (Lf.brk l = ((l.drop k).all (Lf.along c) && decide (3 ≤ n + (l.drop k).count c)))) (fun _ v _ => l.length - (intOf v).toNat)
    case atStart => exact ⟨0, K, Below.refl _ _, by omega, by omega, rfl, rfl, Lib.hid (by rw [hn.out, Nat.zero_add])⟩
    case round =>
      obtain ⟨n, k, hb0, hk2, hnk, rfl, rfl, hf⟩ := hrel
      rcases Nat.lt_or_eq_of_le hk2 with hlt | rfl
      · have hx2 := run_byte hlt
        have ha := along_at (c := c) hlt
        have hcn := count_at (c := c) hlt
        obtain ⟨b, hb⟩ : ∃ b, l[k] = b := ⟨_, rfl⟩
        rw [hb] at hx2 ha hcn
        clear hb
        by_cases hbc : b = c
        · have he := byte_same hbc
          have hf2 : Hid (Lf.brk l = ((l.drop (k + 1)).all (Lf.along c) && decide (3 ≤ (n + 1) + (l.drop (k + 1)).count c))) := Lib.hid (by
            rw [hf.out, ha, hcn, if_pos hbc, show Lf.along c b = true from by simp [Lf.along, hbc], Bool.true_and, show n + (List.count c (l.drop (k + 1)) + 1) = n + 1 + List.count c (l.drop (k + 1)) from by omega])
          clear ha hcn hbc
          go_wp2_with fail
          go_quiet (fail)
          go_wp2_with fail
          go_roundw
          case rel => exact ⟨n + 1, k + 1, below_drewN hb0 _, by omega, by omega, by go_num, by go_num, hf2⟩
          case measure => simp [intOf]; omega
        · have he := byte_diff hbc
          rcases gap_tests b with ⟨g1, g3⟩ | ⟨g1, g2, g3⟩ | ⟨g1, g2, g3⟩
          case inr.inr =>
            have g1' := ne_of_ne g1
            have g2' := ne_of_ne g2
            have hfin : Hid (Lf.brk l = false) := Lib.hid (by rw [hf.out, ha, show Lf.along c b = false from by simp [Lf.along, hbc, g3], Bool.false_and, Bool.false_and])
            clear ha hcn hbc
            go_wp2_with fail
            go_quiet (fail)
            go_wp2_with fail
            go_returns
            exact ⟨by rw [hfin.out]; rfl, below_drewN hb0 _⟩
          all_goals
            first
              | (have g1' := ne_of_ne g1; have g2' := ne_of_eq g2)
              | have g1' := ne_of_eq g1
            have hf2 : Hid (Lf.brk l = ((l.drop (k + 1)).all (Lf.along c) && decide (3 ≤ n + (l.drop (k + 1)).count c))) := Lib.hid (by
              rw [hf.out, ha, hcn, if_neg hbc, show Lf.along c b = true from by simp [Lf.along, g3], Bool.true_and]; rfl)
            clear ha hcn hbc
            go_wp2_with fail
            go_quiet (fail)
            go_wp2_with fail
            go_roundw
            case rel => exact ⟨n, k + 1, below_drewN hb0 _, by omega, by omega, rfl, by go_num, hf2⟩
            case measure => simp [intOf]; omega
      · have hfin : Hid (Lf.brk l = decide ((3 : Int) ≤ (n : Int))) := Lib.hid (by
          rw [hf.out, List.drop_length]
          simp only [List.all_nil, List.count_nil, Bool.true_and, Nat.add_zero]
          exact decide_eq_decide.2 (by omega))
        go_wp2_with fail
        go_returns
        exact ⟨by rw [hfin.out]; rfl, hb0⟩

theorem rbrk_any (l : List UInt8) (w : World) (hl : l.length ≤ 140737488355328) :
    Calls Tryz.prog 73 #[.string (bs l)] w fun e w' => e = .returned (.bool (Lf.brk l)) ∧ Below w.heap.size w w' := by
  have hi := fun w => rindent_any l w hl
  have hle := Cl.lead_le Cl.inf l 0
  have hcl : Fn.cl l = (Cl.lead Cl.inf l 0).1 := rfl
  have hrs : Fn.rs l = l.drop (Cl.lead Cl.inf l 0).2 := rfl
  obtain ⟨C, K, hCK⟩ : ∃ C K, Cl.lead Cl.inf l 0 = (C, K) := ⟨_, _, rfl⟩
  rw [hCK] at hi hle hcl hrs
  simp only at hi hle hcl hrs
  clear hCK
  by_cases hC : C ≤ 3
  · rcases hR : l.drop K with _ | ⟨c, r⟩
    · have hk : K = l.length := by
        have := congrArg List.length hR
        rw [List.length_drop] at this
        simp at this; omega
      exact rbrk_no l C K w (Lib.hid (Lf.brk_nil (hrs.trans hR))) hi (.inr (.inl ⟨hC, hk⟩))
    · have hb := Lf.brk_cons (hrs.trans hR) (by omega)
      cases hc : Lf.ruler c with
      | true => exact rbrk_run l r c C K w (Lib.hid (by rw [hb, hc, Bool.true_and])) hl hi hC hR hc
      | false => exact rbrk_no l C K w (Lib.hid (by rw [hb, hc, Bool.false_and, Bool.false_and])) hi (.inr (.inr ⟨hC, c, r, hR, hc⟩))
  · exact rbrk_no l C K w (Lib.hid (Lf.brk_far (by omega))) hi (.inl (by omega))
end Go.Proofs.YtmbcddehacfpgaaGreatDoor

namespace Go.Proofs.YtmbcddehacfpgaaGreatDoor
open Go.RowKit

def quotev : Option (List UInt8) → Value
  | none => .tuple #[.string ⟨#[]⟩, .bool false]
  | some r => .tuple #[.string (bs r), .bool true]
def headv : Option (Nat × List UInt8) → Value
  | none => .tuple #[.int .i64 0, .string ⟨#[]⟩, .bool false]
  | some (n, t) => .tuple #[.int .i64 (n : Int), .string (bs t), .bool true]

theorem quote_nil {l : List UInt8} (h : Fn.rs l = []) : Lf.quote l = none := by unfold Lf.quote; rw [h]
theorem quote_no {l r : List UInt8} {c : UInt8} (h : Fn.rs l = c :: r) (h1 : ¬ (Fn.cl l ≤ 3 ∧ c = 62)) : Lf.quote l = none := by unfold Lf.quote; rw [h]; simp only; rw [if_neg h1]
theorem quote_yes {l r : List UInt8} {c : UInt8} (h : Fn.rs l = c :: r) (h1 : Fn.cl l ≤ 3 ∧ c = 62) : Lf.quote l = some (Cl.strip 1 r) := by unfold Lf.quote; rw [h]; simp only; rw [if_pos h1]
theorem end_place {l : List UInt8} {K : Nat} (h : l.drop K = []) (hK : K ≤ l.length) : K = l.length := by
  have := congrArg List.length h
  rw [List.length_drop] at this
  simp at this; omega

theorem rquote_no (l : List UInt8) (C K : Nat) (w : World) (hn : Hid (Lf.quote l = none))
    (hi : ∀ w, Calls Tryz.prog 68 #[.string (bs l)] w fun e w' => e = .returned (.tuple #[.int .i64 (C : Int), .int .i64 (K : Int)]) ∧ w = w')
    (hb : 3 < C ∨ (C ≤ 3 ∧ K = l.length) ∨ (C ≤ 3 ∧ ∃ c r, l.drop K = c :: r ∧ c ≠ 62)) :
    Calls Tryz.prog 45 #[.string (bs l)] w fun e w' => e = .returned (quotev (Lf.quote l)) ∧ w = w' := by
  have hsz := bs_size l
  rcases hb with h | ⟨h, hk⟩ | ⟨h, c, r, hr, hc⟩
  · have h3 : decide ((3 : Int) < (C : Int)) = true := by simp; omega
    go_enter Tryz.func45, Tryz.ntmps45
    go_wp2_with fail
    refine (hi _).mono ?_
    rintro e w1 ⟨rfl, rfl⟩
    go_wp2_with fail
    go_returns
    exact ⟨by rw [hn.out]; rfl, rfl⟩
  · have h3 : decide ((3 : Int) < (C : Int)) = false := by simp; omega
    have hKe : ((K : Int) == (l.length : Int)) = true := by rw [beq_iff_eq]; omega
    clear hk
    go_enter Tryz.func45, Tryz.ntmps45
    go_wp2_with fail
    refine (hi _).mono ?_
    rintro e w1 ⟨rfl, rfl⟩
    go_wp2_with fail
    go_returns
    exact ⟨by rw [hn.out]; rfl, rfl⟩
  · have h3 : decide ((3 : Int) < (C : Int)) = false := by simp; omega
    obtain ⟨hk, _⟩ := drop_cons hr
    have hKe : ((K : Int) == (l.length : Int)) = false := by rw [beq_eq_false_iff_ne]; omega
    have hx := place_byte hr
    have t1 := byte_ne (n := 62) (by omega) hc
    have n1 := ne_of_ne t1
    clear hc hr
    go_enter Tryz.func45, Tryz.ntmps45
    go_wp2_with fail
    refine (hi _).mono ?_
    rintro e w1 ⟨rfl, rfl⟩
    go_wp2_with fail
    go_returns
    exact ⟨by rw [hn.out]; rfl, rfl⟩

theorem rquote_yes (l r : List UInt8) (C K : Nat) (w : World) (hn : Hid (Lf.quote l = some (Cl.strip 1 r))) (hl : l.length + 3 ≤ 140737488355328)
    (hi : ∀ w, Calls Tryz.prog 68 #[.string (bs l)] w fun e w' => e = .returned (.tuple #[.int .i64 (C : Int), .int .i64 (K : Int)]) ∧ w = w')
    (h : C ≤ 3) (hr : l.drop K = 62 :: r) :
    Calls Tryz.prog 45 #[.string (bs l)] w fun e w' => e = .returned (quotev (Lf.quote l)) ∧ w = w' := by
  have hsz := bs_size l
  have h3 : decide ((3 : Int) < (C : Int)) = false := by simp; omega
  obtain ⟨hk, _⟩ := drop_cons hr
  have hKe : ((K : Int) == (l.length : Int)) = false := by rw [beq_eq_false_iff_ne]; omega
  have hx := place_byte hr
  have hts := tail_from (l := l) (K := K) (n := 1) (by omega)
  rw [hr, List.drop_succ_cons, List.drop_zero, show ((1 : Nat) : Int) = 1 from rfl] at hts
  have hlen := congrArg List.length hr
  rw [List.length_drop, List.length_cons] at hlen
  have hst := fun w => rstrip_any r 1 w (by omega)
  clear hr
  go_enter Tryz.func45, Tryz.ntmps45
  go_wp2_with fail
  refine (hi _).mono ?_
  rintro e w1 ⟨rfl, rfl⟩
  go_wp2_with fail
  refine (hst _).mono ?_
  rintro e w1 ⟨rfl, rfl⟩
  go_wp2_with fail
  go_returns
  exact ⟨by rw [hn.out]; rfl, rfl⟩

theorem rquote_any (l : List UInt8) (w : World) (hl : l.length + 3 ≤ 140737488355328) :
    Calls Tryz.prog 45 #[.string (bs l)] w fun e w' => e = .returned (quotev (Lf.quote l)) ∧ w = w' := by
  have hi := fun w => rindent_any l w (by omega)
  have hle := Cl.lead_le Cl.inf l 0
  have hcl : Fn.cl l = (Cl.lead Cl.inf l 0).1 := rfl
  have hrs : Fn.rs l = l.drop (Cl.lead Cl.inf l 0).2 := rfl
  obtain ⟨C, K, hCK⟩ : ∃ C K, Cl.lead Cl.inf l 0 = (C, K) := ⟨_, _, rfl⟩
  rw [hCK] at hi hle hcl hrs
  simp only at hi hle hcl hrs
  clear hCK
  rcases hR : l.drop K with _ | ⟨c, r⟩
  · have hn := Lib.hid (quote_nil (hrs.trans hR))
    by_cases hC : C ≤ 3
    · exact rquote_no l C K w hn hi (.inr (.inl ⟨hC, end_place hR (by omega)⟩))
    · exact rquote_no l C K w hn hi (.inl (by omega))
  · by_cases hC : C ≤ 3
    · by_cases hc : c = 62
      · subst hc
        exact rquote_yes l r C K w (Lib.hid (quote_yes (hrs.trans hR) ⟨by omega, rfl⟩)) hl hi hC hR
      · exact rquote_no l C K w (Lib.hid (quote_no (hrs.trans hR) (fun h => hc h.2))) hi (.inr (.inr ⟨hC, c, r, hR, hc⟩))
    · exact rquote_no l C K w (Lib.hid (quote_no (hrs.trans hR) (fun h => hC (by omega)))) hi (.inl (by omega))

theorem head_no {l : List UInt8} (h : ¬ (Fn.cl l ≤ 3 ∧ 1 ≤ Fn.run 35 (Fn.rs l) ∧ Fn.run 35 (Fn.rs l) ≤ 6 ∧ Lf.stop ((Fn.rs l).drop (Fn.run 35 (Fn.rs l))) = true)) : Lf.heading l = none := if_neg h
theorem head_yes {l : List UInt8} (h : Fn.cl l ≤ 3 ∧ 1 ≤ Fn.run 35 (Fn.rs l) ∧ Fn.run 35 (Fn.rs l) ≤ 6 ∧ Lf.stop ((Fn.rs l).drop (Fn.run 35 (Fn.rs l))) = true) :
    Lf.heading l = some (Fn.run 35 (Fn.rs l), Lf.title (Fn.trim ((Fn.rs l).drop (Fn.run 35 (Fn.rs l))))) := if_pos h
theorem place_sum {l q : List UInt8} {b : UInt8} {K n : Nat} (h : (l.drop K).drop n = b :: q) (w : World) :
    (Instr.index 9 (.string (bs l)) (.int .i64 ((K : Int) + (n : Int)))).run Tryz.prog w = .ok (.int .u8 (b.toNat : Int)) w := by
  rw [List.drop_drop] at h
  have := place_byte h w
  rwa [Int.natCast_add] at this

set_option maxHeartbeats 1000000 in
theorem rhead_no (l : List UInt8) (C K n : Nat) (w : World) (hn : Hid (Lf.heading l = none)) (hl : l.length ≤ 140737488355328)
    (hi : ∀ w, Calls Tryz.prog 68 #[.string (bs l)] w fun e w' => e = .returned (.tuple #[.int .i64 (C : Int), .int .i64 (K : Int)]) ∧ w = w')
    (hrun : ∀ w, Calls Tryz.prog 69 #[.string (bs l), .int .i64 (K : Int), .int .u8 35] w fun e w' => e = .returned (.int .i64 (n : Int)) ∧ w = w')
    (hb : 3 < C ∨ (C ≤ 3 ∧ n < 1) ∨ (C ≤ 3 ∧ 1 ≤ n ∧ 6 < n) ∨ (C ≤ 3 ∧ 1 ≤ n ∧ n ≤ 6 ∧ ∃ b q, (l.drop K).drop n = b :: q ∧ Cl.isGap b = false)) :
    Calls Tryz.prog 74 #[.string (bs l)] w fun e w' => e = .returned (headv (Lf.heading l)) ∧ w = w' := by
  have hsz := bs_size l
  rcases hb with h | ⟨h, h1⟩ | ⟨h, h1, h2⟩ | ⟨h, h1, h2, b, q, hr, hg⟩
  · have h3 : decide ((3 : Int) < (C : Int)) = true := by simp; omega
    go_enter Tryz.func74, Tryz.ntmps74
    go_wp2_with fail
    refine (hi _).mono ?_
    rintro e w1 ⟨rfl, rfl⟩
    go_wp2_with fail
    refine (hrun _).mono ?_
    rintro e w1 ⟨rfl, rfl⟩
    go_wp2_with fail
    go_returns
    exact ⟨by rw [hn.out]; rfl, rfl⟩
  · have h3 : decide ((3 : Int) < (C : Int)) = false := by simp; omega
    have h4 : decide ((n : Int) < 1) = true := by simp; omega
    go_enter Tryz.func74, Tryz.ntmps74
    go_wp2_with fail
    refine (hi _).mono ?_
    rintro e w1 ⟨rfl, rfl⟩
    go_wp2_with fail
    refine (hrun _).mono ?_
    rintro e w1 ⟨rfl, rfl⟩
    go_wp2_with fail
    go_returns
    exact ⟨by rw [hn.out]; rfl, rfl⟩
  · have h3 : decide ((3 : Int) < (C : Int)) = false := by simp; omega
    have h4 : decide ((n : Int) < 1) = false := by simp; omega
    have h5 : decide ((6 : Int) < (n : Int)) = true := by simp; omega
    go_enter Tryz.func74, Tryz.ntmps74
    go_wp2_with fail
    refine (hi _).mono ?_
    rintro e w1 ⟨rfl, rfl⟩
    go_wp2_with fail
    refine (hrun _).mono ?_
    rintro e w1 ⟨rfl, rfl⟩
    go_wp2_with fail
    go_returns
    exact ⟨by rw [hn.out]; rfl, rfl⟩
  · have h3 : decide ((3 : Int) < (C : Int)) = false := by simp; omega
    have h4 : decide ((n : Int) < 1) = false := by simp; omega
    have h5 : decide ((6 : Int) < (n : Int)) = false := by simp; omega
    have hx := place_sum hr
    have hkn : K + n < l.length := by have := congrArg List.length hr; rw [List.length_drop, List.length_drop, List.length_cons] at this; omega
    have h6 : decide ((K : Int) + (n : Int) < (l.length : Int)) = true := by simp; omega
    rcases gap_tests b with ⟨_, g⟩ | ⟨_, _, g⟩ | ⟨g1, g2, _⟩
    · rw [g] at hg; cases hg
    · rw [g] at hg; cases hg
    · have n1 := ne_of_ne g1
      have n2 := ne_of_ne g2
      clear hg hr
      go_enter Tryz.func74, Tryz.ntmps74
      go_wp2_with fail
      refine (hi _).mono ?_
      rintro e w1 ⟨rfl, rfl⟩
      go_wp2_with fail
      refine (hrun _).mono ?_
      rintro e w1 ⟨rfl, rfl⟩
      go_wp2_with fail
      go_returns
      exact ⟨by rw [hn.out]; rfl, rfl⟩

/-- what is left of a text when its last signs go -/
theorem unhash_end {t : List UInt8} {m : Nat} (h : Hid (Lf.unhash (t.take m) = Lf.unhash t)) (hm : m ≤ t.length) (hs : m = 0 ∨ ∃ j, ∃ hj : j < t.length, m = j + 1 ∧ t[j] ≠ 35) : Lf.unhash t = t.take m := by
  rcases hs with rfl | ⟨j, hj, rfl, hne⟩
  · rw [← h.out]; rfl
  · rw [← h.out, List.take_succ_eq_append_getElem hj, Lf.unhash_snoc_word _ hne]
theorem unhash_next {t : List UInt8} {j : Nat} (hj : j < t.length) (h : Hid (Lf.unhash (t.take (j + 1)) = Lf.unhash t)) (hs : t[j] = 35) : Hid (Lf.unhash (t.take j) = Lf.unhash t) := by
  refine Lib.hid ?_
  rw [← h.out, List.take_succ_eq_append_getElem hj, hs, Lf.unhash_snoc_sign]
theorem closed_zero {t : List UInt8} : Lf.closed (t.take 0) = true := rfl
theorem closed_last {t : List UInt8} {j : Nat} (hj : j < t.length) : Lf.closed (t.take (j + 1)) = Cl.isGap t[j] := by
  unfold Lf.closed
  rw [List.take_succ_eq_append_getElem hj, List.getLast?_concat]

set_option maxHeartbeats 4000000 in
theorem rhead_yes (l X : List UInt8) (C K n : Nat) (w : World) (hn : Hid (Lf.heading l = some (n, Lf.title (Fn.trim X)))) (hl : l.length ≤ 140737488355328)
    (hi : ∀ w, Calls Tryz.prog 68 #[.string (bs l)] w fun e w' => e = .returned (.tuple #[.int .i64 (C : Int), .int .i64 (K : Int)]) ∧ w = w')
    (hrun : ∀ w, Calls Tryz.prog 69 #[.string (bs l), .int .i64 (K : Int), .int .u8 35] w fun e w' => e = .returned (.int .i64 (n : Int)) ∧ w = w')
    (h : C ≤ 3) (h1 : 1 ≤ n) (h2 : n ≤ 6) (hKn : K + n ≤ l.length) (hX : (l.drop K).drop n = X) (hst : Lf.stop X = true) :
    Calls Tryz.prog 74 #[.string (bs l)] w fun e w' => e = .returned (headv (Lf.heading l)) ∧ w = w' := by
  have hsz := bs_size l
  have h3 : decide ((3 : Int) < (C : Int)) = false := by simp; omega
  have h4 : decide ((n : Int) < 1) = false := by simp; omega
  have h5 : decide ((6 : Int) < (n : Int)) = false := by simp; omega
  have hts := tail_from (l := l) (K := K) (n := n) hKn
  have hXl : X.length = l.length - K - n := by rw [← hX, List.length_drop, List.length_drop]
  have hxs := fun b q (e : X = b :: q) => @place_sum l q b K n (hX.trans e)
  rw [hX] at hts
  have htr := fun w => rtrim_any X w (by omega)
  have htl := Fn.trim_len X
  obtain ⟨t, ht⟩ : ∃ t, Fn.trim X = t := ⟨_, rfl⟩
  rw [ht] at htr hn htl
  have hzt := bs_size t
  replace htl : t.length ≤ 140737488355328 := by omega
  have hbk := fun m w => rback_any (t.take m) w (by rw [List.length_take]; omega)
  have hfy : Hid (Lf.closed (Lf.unhash t) = true → Lf.heading l = some (n, Fn.back (Lf.unhash t))) := Lib.hid (fun h => by rw [hn.out]; unfold Lf.title; rw [if_pos h])
  have hfn : Hid (Lf.closed (Lf.unhash t) = false → Lf.heading l = some (n, t)) := Lib.hid (fun h => by rw [hn.out]; unfold Lf.title; rw [if_neg (by rw [h]; simp)])
  clear ht hn hX
  have hways : (decide ((K : Int) + (n : Int) < (l.length : Int)) = false) ∨ (decide ((K : Int) + (n : Int) < (l.length : Int)) = true ∧ ∃ b : UInt8, (∀ w, (Instr.index 9 (.string (bs l)) (.int .i64 ((K : Int) + (n : Int)))).run Tryz.prog w = .ok (.int .u8 (b.toNat : Int)) w) ∧ (((b.toNat : Int) != 32) = false ∨ (((b.toNat : Int) != 32) = true ∧ ((b.toNat : Int) != 9) = false))) := by
    rcases hXc : X with _ | ⟨b, q⟩
    · left; rw [hXc] at hXl; simp at hXl ⊢; omega
    · right
      refine ⟨by rw [hXc, List.length_cons] at hXl; simp; omega, b, hxs b q hXc, ?_⟩
      rw [hXc] at hst
      rcases gap_tests b with ⟨g1, _⟩ | ⟨g1, g2, _⟩ | ⟨_, _, g⟩
      · exact .inl (ne_of_eq g1)
      · exact .inr ⟨ne_of_ne g1, ne_of_eq g2⟩
      · exact absurd (show Cl.isGap b = true from hst) (by rw [g]; simp)
  clear hxs hst hXl
  rcases hways with h6 | ⟨h6, b, hx, n1 | ⟨n1, n2⟩⟩
  all_goals
    go_enter Tryz.func74, Tryz.ntmps74
    go_wp2_with fail
    refine (hi _).mono ?_
    rintro e w1 ⟨rfl, rfl⟩
    go_wp2_with fail
    refine (hrun _).mono ?_
    rintro e w1 ⟨rfl, rfl⟩
    go_wp2_with fail
    refine (htr _).mono ?_
    rintro e w1 ⟨rfl, rfl⟩
    clear hi hrun htr hts
    go_wp2_with fail
    go_loop [9] (fun u => ∃ m : Nat, m ≤ t.length ∧ u = .int .i64 (m : Int) ∧ Hid (Lf.unhash (t.take m) = Lf.unhash t)) (fun u => (intOf u).toNat)
    case atStart => exact ⟨t.length, Nat.le_refl _, rfl, Lib.hid (by rw [List.take_length])⟩
    case round =>
      obtain ⟨m, hm, rfl, hf⟩ := hrel
      have hend := unhash_end hf hm
      have hb := hbk m
      have hup := run_upto (S := t) (i := m) hm
      rcases (show m = 0 ∨ ∃ j, m = j + 1 from by rcases m with _ | j; · exact .inl rfl
                                                  · exact .inr ⟨j, rfl⟩) with rfl | ⟨j, hmj⟩
      · have hfin := Lib.hid (hfy.out (by rw [hend (.inl rfl)]; rfl))
        have hfin2 : Hid (Lf.unhash t = t.take 0) := Lib.hid (hend (.inl rfl))
        rw [show ((0 : Nat) : Int) = 0 from rfl] at hup
        clear hend hbk hfy hfn
        go_wp2_with fail
        refine (hb _).mono ?_
        rintro e w1 ⟨rfl, rfl⟩
        go_wp2_with fail
        go_returns
        exact ⟨by rw [hfin.out, hfin2.out]; rfl, rfl⟩
      · have hj : j < t.length := by omega
        have hx2 := run_byte hj
        have hcl := closed_last hj
        have hd : (m : Int) - 1 = (j : Int) := by omega
        have hp : decide ((0 : Int) < (m : Int)) = true := by simp; omega
        have hz : ((m : Int) == 0) = false := by rw [beq_eq_false_iff_ne]; omega
        by_cases hs : t[j] = 35
        · have hf2 := unhash_next hj (by rw [← hmj]; exact hf) hs
          have hmj2 := Lib.hid hmj
          have hq := byte_eq (n := 35) (by omega) hs
          obtain ⟨b, hb2⟩ : ∃ b, t[j] = b := ⟨_, rfl⟩
          rw [hb2] at hx2 hq
          clear hend hb hup hcl hs hb2 hbk hfy hfn hmj
          go_wp2_with fail
          go_round
          case rel => exact ⟨j, by omega, by go_num, hf2⟩
          case measure => have := hmj2.out; simp [intOf]; omega
        · have hq := byte_ne (n := 35) (by omega) hs
          have he := hend (.inr ⟨j, hj, hmj, hs⟩)
          rw [← hmj, ← he] at hcl
          obtain ⟨b, hb2⟩ : ∃ b, t[j] = b := ⟨_, rfl⟩
          rw [hb2] at hx2 hq hcl
          replace he := Lib.hid he
          clear hs hb2 hend hbk hmj
          rcases gap_tests b with ⟨g1, g⟩ | ⟨g1, g2, g⟩ | ⟨g1, g2, g⟩
          case inr.inr =>
            have hfin := Lib.hid (hfn.out (hcl.trans g))
            clear hcl hfy hfn hb
            go_wp2_with fail
            go_returns
            exact ⟨by rw [hfin.out]; rfl, rfl⟩
          all_goals
            have hfin := Lib.hid (hfy.out (hcl.trans g))
            clear hcl hfy hfn
            go_wp2_with fail
            refine (hb _).mono ?_
            rintro e w1 ⟨rfl, rfl⟩
            go_wp2_with fail
            go_returns
            exact ⟨by rw [hfin.out, he.out]; rfl, rfl⟩

theorem rhead_any (l : List UInt8) (w : World) (hl : l.length ≤ 140737488355328) :
    Calls Tryz.prog 74 #[.string (bs l)] w fun e w' => e = .returned (headv (Lf.heading l)) ∧ w = w' := by
  have hi := fun w => rindent_any l w hl
  have hle := Cl.lead_le Cl.inf l 0
  have hcl : Fn.cl l = (Cl.lead Cl.inf l 0).1 := rfl
  have hrs : Fn.rs l = l.drop (Cl.lead Cl.inf l 0).2 := rfl
  obtain ⟨C, K, hCK⟩ : ∃ C K, Cl.lead Cl.inf l 0 = (C, K) := ⟨_, _, rfl⟩
  rw [hCK] at hi hle hcl hrs
  simp only at hi hle hcl hrs
  clear hCK
  have hrun := fun w => rrun_any l K 35 w hl (by omega)
  have hrl := Fn.run_le 35 (l.drop K)
  rw [List.length_drop] at hrl
  have hno := @head_no l
  have hye := @head_yes l
  rw [hcl, hrs] at hno hye
  obtain ⟨n, hn⟩ : ∃ n, Fn.run 35 (l.drop K) = n := ⟨_, rfl⟩
  rw [hn] at hrun hrl hno hye
  obtain ⟨X, hX⟩ : ∃ X, (l.drop K).drop n = X := ⟨_, rfl⟩
  rw [hX] at hno hye
  by_cases hC : C ≤ 3
  · by_cases h1 : 1 ≤ n
    · by_cases h2 : n ≤ 6
      · cases hs : Lf.stop X with
        | true => exact rhead_yes l X C K n w (Lib.hid (hye ⟨hC, h1, h2, hs⟩)) hl hi hrun hC h1 h2 (by omega) hX hs
        | false =>
          refine rhead_no l C K n w (Lib.hid (hno (fun h => by rw [hs] at h; cases h.2.2.2))) hl hi hrun (.inr (.inr (.inr ⟨hC, h1, h2, ?_⟩)))
          rcases hXc : X with _ | ⟨b, q⟩
          · rw [hXc] at hs; cases hs
          · rw [hXc] at hs; exact ⟨b, q, hX.trans hXc, hs⟩
      · exact rhead_no l C K n w (Lib.hid (hno (fun h => h2 h.2.2.1))) hl hi hrun (.inr (.inr (.inl ⟨hC, h1, by omega⟩)))
    · exact rhead_no l C K n w (Lib.hid (hno (fun h => h1 h.2.1))) hl hi hrun (.inr (.inl ⟨hC, by omega⟩))
  · exact rhead_no l C K n w (Lib.hid (hno (fun h => hC h.1))) hl hi hrun (.inl (by omega))
end Go.Proofs.YtmbcddehacfpgaaGreatDoor

namespace Go.Proofs.YtmbcddehacfpgaaGreatDoor
open Go.RowKit

def itemv : Option (UInt8 × Nat × List UInt8) → Value
  | none => .tuple #[.int .u8 0, .int .i64 0, .string ⟨#[]⟩, .bool false]
  | some (c, k, t) => .tuple #[.int .u8 (c.toNat : Int), .int .i64 (k : Int), .string (bs t), .bool true]

theorem item_nil {l : List UInt8} (h : Fn.rs l = []) : Lf.item l = none := by unfold Lf.item; rw [h]
theorem item_no {l r : List UInt8} {c : UInt8} (h : Fn.rs l = c :: r) (h1 : ¬ (Fn.cl l ≤ 3 ∧ Lf.bullet c = true ∧ Lf.brk l = false ∧ Lf.stop r = true)) : Lf.item l = none := by unfold Lf.item; rw [h]; simp only; rw [if_neg h1]
theorem item_emp {l r : List UInt8} {c : UInt8} (h : Fn.rs l = c :: r) (h1 : Fn.cl l ≤ 3 ∧ Lf.bullet c = true ∧ Lf.brk l = false ∧ Lf.stop r = true) (h2 : Fn.emp r = true) : Lf.item l = some (c, Fn.cl l + 2, []) := by
  unfold Lf.item; rw [h]; simp only; rw [if_pos h1, if_pos h2]
theorem item_yes {l r : List UInt8} {c : UInt8} (h : Fn.rs l = c :: r) (h1 : Fn.cl l ≤ 3 ∧ Lf.bullet c = true ∧ Lf.brk l = false ∧ Lf.stop r = true) (h2 : Fn.emp r = false) :
    Lf.item l = some (c, Fn.cl l + 1 + Lf.inner (Fn.cl r), Cl.strip (Lf.inner (Fn.cl r)) r) := by
  unfold Lf.item; rw [h]; simp only; rw [if_pos h1, if_neg (by rw [h2]; simp)]

theorem ritem_no (l : List UInt8) (C K : Nat) (w : World) (hn : Hid (Lf.item l = none))
    (hi : ∀ w, Calls Tryz.prog 68 #[.string (bs l)] w fun e w' => e = .returned (.tuple #[.int .i64 (C : Int), .int .i64 (K : Int)]) ∧ w = w')
    (hb : 3 < C ∨ (C ≤ 3 ∧ K = l.length) ∨ (C ≤ 3 ∧ ∃ c r, l.drop K = c :: r ∧ Lf.bullet c = false)) :
    Calls Tryz.prog 48 #[.string (bs l)] w fun e w' => e = .returned (itemv (Lf.item l)) ∧ Below w.heap.size w w' := by
  have hsz := bs_size l
  rcases hb with h | ⟨h, hk⟩ | ⟨h, c, r, hr, hc⟩
  · have h3 : decide ((3 : Int) < (C : Int)) = true := by simp; omega
    go_enter Tryz.func48, Tryz.ntmps48
    go_wp2_with fail
    refine (hi _).mono ?_
    rintro e w1 ⟨rfl, rfl⟩
    go_wp2_with fail
    go_returns
    exact ⟨by rw [hn.out]; rfl, Below.refl _ _⟩
  · have h3 : decide ((3 : Int) < (C : Int)) = false := by simp; omega
    have hKe : ((K : Int) == (l.length : Int)) = true := by rw [beq_iff_eq]; omega
    clear hk
    go_enter Tryz.func48, Tryz.ntmps48
    go_wp2_with fail
    refine (hi _).mono ?_
    rintro e w1 ⟨rfl, rfl⟩
    go_wp2_with fail
    go_returns
    exact ⟨by rw [hn.out]; rfl, Below.refl _ _⟩
  · have h3 : decide ((3 : Int) < (C : Int)) = false := by simp; omega
    obtain ⟨hk, _⟩ := drop_cons hr
    have hKe : ((K : Int) == (l.length : Int)) = false := by rw [beq_eq_false_iff_ne]; omega
    have hx := place_byte hr
    rcases bullet_tests c with ⟨_, h⟩ | ⟨_, _, h⟩ | ⟨_, _, _, h⟩ | ⟨t1, t2, t3, _⟩
    · rw [h] at hc; cases hc
    · rw [h] at hc; cases hc
    · rw [h] at hc; cases hc
    · have n1 := ne_of_ne t1
      have n2 := ne_of_ne t2
      have n3 := ne_of_ne t3
      clear hc hr
      go_enter Tryz.func48, Tryz.ntmps48
      go_wp2_with fail
      refine (hi _).mono ?_
      rintro e w1 ⟨rfl, rfl⟩
      go_wp2_with fail
      go_returns
      exact ⟨by rw [hn.out]; rfl, Below.refl _ _⟩

/-- the three tests of a sign that is one -/
theorem bullet_ways {c : UInt8} (h : Lf.bullet c = true) : (((c.toNat : Int) != 42) = false) ∨ (((c.toNat : Int) != 42) = true ∧ ((c.toNat : Int) != 45) = false) ∨
    (((c.toNat : Int) != 42) = true ∧ ((c.toNat : Int) != 45) = true ∧ ((c.toNat : Int) != 43) = false) := by
  rcases bullet_tests c with ⟨t1, _⟩ | ⟨t1, t2, _⟩ | ⟨t1, t2, t3, _⟩ | ⟨_, _, _, h'⟩
  · exact .inl (ne_of_eq t1)
  · exact .inr (.inl ⟨ne_of_ne t1, ne_of_eq t2⟩)
  · exact .inr (.inr ⟨ne_of_ne t1, ne_of_ne t2, ne_of_eq t3⟩)
  · rw [h] at h'; cases h'

section
variable (l r : List UInt8) (c : UInt8) (C K : Nat) (w : World)
    (hi : ∀ w, Calls Tryz.prog 68 #[.string (bs l)] w fun e w' => e = .returned (.tuple #[.int .i64 (C : Int), .int .i64 (K : Int)]) ∧ w = w')
    (h : C ≤ 3) (hr : l.drop K = c :: r) (hc : Lf.bullet c = true)

set_option maxHeartbeats 1000000 in
include hi h hr hc in
theorem ritem_brk (hn : Hid (Lf.item l = none)) (hk : ∀ w, Calls Tryz.prog 73 #[.string (bs l)] w fun e w' => e = .returned (.bool true) ∧ Below w.heap.size w w') :
    Calls Tryz.prog 48 #[.string (bs l)] w fun e w' => e = .returned (itemv (Lf.item l)) ∧ Below w.heap.size w w' := by
  have hsz := bs_size l
  have h3 : decide ((3 : Int) < (C : Int)) = false := by simp; omega
  obtain ⟨hkl, _⟩ := drop_cons hr
  have hKe : ((K : Int) == (l.length : Int)) = false := by rw [beq_eq_false_iff_ne]; omega
  have hx := place_byte hr
  have hw := bullet_ways hc
  clear hc hr
  rcases hw with n1 | ⟨n1, n2⟩ | ⟨n1, n2, n3⟩
  all_goals
    go_enter Tryz.func48, Tryz.ntmps48
    go_wp2_with fail
    refine (hi _).mono ?_
    rintro e w1 ⟨rfl, rfl⟩
    go_wp2_with fail
    refine (hk _).mono ?_
    rintro e w1 ⟨rfl, hb1⟩
    go_wp2_with fail
    go_returns
    exact ⟨by rw [hn.out]; rfl, hb1⟩

set_option maxHeartbeats 1000000 in
include hi h hr hc in
theorem ritem_word (hn : Hid (Lf.item l = none)) (hk : ∀ w, Calls Tryz.prog 73 #[.string (bs l)] w fun e w' => e = .returned (.bool false) ∧ Below w.heap.size w w')
    (hl : l.length ≤ 140737488355328) (hs : Lf.stop r = false) :
    Calls Tryz.prog 48 #[.string (bs l)] w fun e w' => e = .returned (itemv (Lf.item l)) ∧ Below w.heap.size w w' := by
  have hsz := bs_size l
  have h3 : decide ((3 : Int) < (C : Int)) = false := by simp; omega
  obtain ⟨hkl, _⟩ := drop_cons hr
  have hKe : ((K : Int) == (l.length : Int)) = false := by rw [beq_eq_false_iff_ne]; omega
  have hx := place_byte hr
  have hts := tail_from (l := l) (K := K) (n := 1) (by omega)
  rw [hr, List.drop_succ_cons, List.drop_zero, show ((1 : Nat) : Int) = 1 from rfl] at hts
  obtain ⟨b, q, rfl⟩ : ∃ b q, r = b :: q := by
    rcases r with _ | ⟨b, q⟩
    · cases hs
    · exact ⟨b, q, rfl⟩
  have hem := text_cons b q
  have hx2 := run_byte (S := b :: q) (i := 0) (by simp)
  rw [List.getElem_cons_zero, show ((0 : Nat) : Int) = 0 from rfl] at hx2
  have hw := bullet_ways hc
  have g1 : ((b.toNat : Int) != 32) = true ∧ ((b.toNat : Int) != 9) = true := by
    rcases gap_tests b with ⟨_, g⟩ | ⟨_, _, g⟩ | ⟨g1, g2, _⟩
    · exact absurd (show Cl.isGap b = false from hs) (by rw [g]; simp)
    · exact absurd (show Cl.isGap b = false from hs) (by rw [g]; simp)
    · exact ⟨ne_of_ne g1, ne_of_ne g2⟩
  obtain ⟨g1, g2⟩ := g1
  clear hc hr hs
  rcases hw with n1 | ⟨n1, n2⟩ | ⟨n1, n2, n3⟩
  all_goals
    go_enter Tryz.func48, Tryz.ntmps48
    go_wp2_with fail
    refine (hi _).mono ?_
    rintro e w1 ⟨rfl, rfl⟩
    go_wp2_with fail
    refine (hk _).mono ?_
    rintro e w1 ⟨rfl, hb1⟩
    go_wp2_with fail
    go_returns
    exact ⟨by rw [hn.out]; rfl, hb1⟩

set_option maxHeartbeats 2000000 in
include hi h hr hc in
theorem ritem_emp (hn : Hid (Lf.item l = some (c, C + 2, []))) (hk : ∀ w, Calls Tryz.prog 73 #[.string (bs l)] w fun e w' => e = .returned (.bool false) ∧ Below w.heap.size w w')
    (hl : l.length ≤ 140737488355328) (hs : Lf.stop r = true) (he : ∀ w, Calls Tryz.prog 67 #[.string (bs r)] w fun e w' => e = .returned (.bool true) ∧ w = w') :
    Calls Tryz.prog 48 #[.string (bs l)] w fun e w' => e = .returned (itemv (Lf.item l)) ∧ Below w.heap.size w w' := by
  have hsz := bs_size l
  have h3 : decide ((3 : Int) < (C : Int)) = false := by simp; omega
  obtain ⟨hkl, _⟩ := drop_cons hr
  have hKe : ((K : Int) == (l.length : Int)) = false := by rw [beq_eq_false_iff_ne]; omega
  have hx := place_byte hr
  have hts := tail_from (l := l) (K := K) (n := 1) (by omega)
  rw [hr, List.drop_succ_cons, List.drop_zero, show ((1 : Nat) : Int) = 1 from rfl] at hts
  have hw := bullet_ways hc
  have hways : ((bs r).toList.isEmpty = true) ∨ ((bs r).toList.isEmpty = false ∧ ∃ b : UInt8, (∀ w, (Instr.index 9 (.string (bs r)) (.int .i64 0)).run Tryz.prog w = .ok (.int .u8 (b.toNat : Int)) w) ∧ (((b.toNat : Int) != 32) = false ∨ (((b.toNat : Int) != 32) = true ∧ ((b.toNat : Int) != 9) = false))) := by
    rcases r with _ | ⟨b, q⟩
    · exact .inl text_nil
    · refine .inr ⟨text_cons b q, b, ?_, ?_⟩
      · have hx2 := run_byte (S := b :: q) (i := 0) (by simp)
        rw [List.getElem_cons_zero, show ((0 : Nat) : Int) = 0 from rfl] at hx2
        exact hx2
      · rcases gap_tests b with ⟨g1, _⟩ | ⟨g1, g2, _⟩ | ⟨_, _, g⟩
        · exact .inl (ne_of_eq g1)
        · exact .inr ⟨ne_of_ne g1, ne_of_eq g2⟩
        · exact absurd (show Cl.isGap b = true from hs) (by rw [g]; simp)
  clear hc hr hs
  rcases hw with n1 | ⟨n1, n2⟩ | ⟨n1, n2, n3⟩
  all_goals
    rcases hways with e0 | ⟨e0, b, hx2, g1 | ⟨g1, g2⟩⟩
    all_goals
      go_enter Tryz.func48, Tryz.ntmps48
      go_wp2_with fail
      refine (hi _).mono ?_
      rintro e w1 ⟨rfl, rfl⟩
      go_wp2_with fail
      refine (hk _).mono ?_
      rintro e w1 ⟨rfl, hb1⟩
      go_wp2_with fail
      refine (he _).mono ?_
      rintro e w1 ⟨rfl, rfl⟩
      go_wp2_with fail
      go_returns
      exact ⟨by rw [hn.out]; rfl, hb1⟩

set_option maxHeartbeats 4000000 in
include hi h hr hc in
theorem ritem_yes (n : Nat) (S : List UInt8) (hn : Hid (Lf.item l = some (c, C + 1 + Lf.inner n, S))) (hk : ∀ w, Calls Tryz.prog 73 #[.string (bs l)] w fun e w' => e = .returned (.bool false) ∧ Below w.heap.size w w')
    (hl : l.length ≤ 140737488355328) (b : UInt8) (q : List UInt8) (hrb : r = b :: q) (hs : Cl.isGap b = true) (he : ∀ w, Calls Tryz.prog 67 #[.string (bs r)] w fun e w' => e = .returned (.bool false) ∧ w = w')
    (k : Nat) (hin : ∀ w, Calls Tryz.prog 68 #[.string (bs r)] w fun e w' => e = .returned (.tuple #[.int .i64 (n : Int), .int .i64 (k : Int)]) ∧ w = w') (hnl : n ≤ 1000000000000000)
    (hst : ∀ w, Calls Tryz.prog 44 #[.string (bs r), .int .i64 (Lf.inner n : Int)] w fun e w' => e = .returned (.string (bs S)) ∧ w = w') :
    Calls Tryz.prog 48 #[.string (bs l)] w fun e w' => e = .returned (itemv (Lf.item l)) ∧ Below w.heap.size w w' := by
  have hsz := bs_size l
  have h3 : decide ((3 : Int) < (C : Int)) = false := by simp; omega
  obtain ⟨hkl, _⟩ := drop_cons hr
  have hKe : ((K : Int) == (l.length : Int)) = false := by rw [beq_eq_false_iff_ne]; omega
  have hx := place_byte hr
  have hts := tail_from (l := l) (K := K) (n := 1) (by omega)
  rw [hr, List.drop_succ_cons, List.drop_zero, show ((1 : Nat) : Int) = 1 from rfl] at hts
  have hw := bullet_ways hc
  have e0 := text_cons b q
  have hx2 := run_byte (S := b :: q) (i := 0) (by simp)
  rw [List.getElem_cons_zero, show ((0 : Nat) : Int) = 0 from rfl] at hx2
  rw [← hrb] at e0 hx2
  have hways : (((b.toNat : Int) != 32) = false ∨ (((b.toNat : Int) != 32) = true ∧ ((b.toNat : Int) != 9) = false)) := by
    rcases gap_tests b with ⟨g1, _⟩ | ⟨g1, g2, _⟩ | ⟨_, _, g⟩
    · exact .inl (ne_of_eq g1)
    · exact .inr ⟨ne_of_ne g1, ne_of_eq g2⟩
    · rw [hs] at g; cases g
  have hcz : C ≤ 1000000000000000 := by omega
  have hinn : (decide ((4 : Int) < (n : Int)) = true ∧ Lf.inner n = 1) ∨ (decide ((4 : Int) < (n : Int)) = false ∧ Lf.inner n = n) := by
    unfold Lf.inner
    by_cases h4 : 4 < n
    · exact .inl ⟨by simp; omega, if_pos h4⟩
    · exact .inr ⟨by simp; omega, if_neg h4⟩
  clear hc hr hs hrb
  rcases hinn with ⟨h4, hi4⟩ | ⟨h4, hi4⟩
  all_goals
    rw [hi4] at hst hn
    try rw [show ((1 : Nat) : Int) = 1 from rfl] at hst
    clear hi4
    rcases hw with n1 | ⟨n1, n2⟩ | ⟨n1, n2, n3⟩
    all_goals
      rcases hways with g1 | ⟨g1, g2⟩
      all_goals
        go_enter Tryz.func48, Tryz.ntmps48
        go_wp2_with fail
        refine (hi _).mono ?_
        rintro e w1 ⟨rfl, rfl⟩
        go_wp2_with fail
        refine (hk _).mono ?_
        rintro e w1 ⟨rfl, hb1⟩
        go_wp2_with fail
        refine (he _).mono ?_
        rintro e w2 ⟨rfl, rfl⟩
        go_wp2_with fail
        refine (hin _).mono ?_
        rintro e w2 ⟨rfl, rfl⟩
        clear hi hk he hin hts
        go_wp2_with fail
        go_quiet ((go_at_call 44; exact (hst _).mono (fun _ _ h => ⟨h.1, _, h.2.symm⟩)))
        go_wp2_with fail
        go_returns
        exact ⟨by rw [hn.out]; rfl, below_drewN hb1 _⟩
end

theorem ritem_any (l : List UInt8) (w : World) (hl : l.length + 3 ≤ 140737488355328) :
    Calls Tryz.prog 48 #[.string (bs l)] w fun e w' => e = .returned (itemv (Lf.item l)) ∧ Below w.heap.size w w' := by
  have hi := fun w => rindent_any l w (by omega)
  have hle := Cl.lead_le Cl.inf l 0
  have hcl : Fn.cl l = (Cl.lead Cl.inf l 0).1 := rfl
  have hrs : Fn.rs l = l.drop (Cl.lead Cl.inf l 0).2 := rfl
  obtain ⟨C, K, hCK⟩ : ∃ C K, Cl.lead Cl.inf l 0 = (C, K) := ⟨_, _, rfl⟩
  rw [hCK] at hi hle hcl hrs
  simp only at hi hle hcl hrs
  clear hCK
  have hk := fun w => rbrk_any l w (by omega)
  rcases hR : l.drop K with _ | ⟨c, r⟩
  · have hn := Lib.hid (item_nil (hrs.trans hR))
    by_cases hC : C ≤ 3
    · exact ritem_no l C K w hn hi (.inr (.inl ⟨hC, end_place hR (by omega)⟩))
    · exact ritem_no l C K w hn hi (.inl (by omega))
  · have hno := @item_no l r c (hrs.trans hR)
    have hlen := congrArg List.length hR
    rw [List.length_drop, List.length_cons] at hlen
    rw [hcl] at hno
    by_cases hC : C ≤ 3
    · cases hc : Lf.bullet c with
      | false => exact ritem_no l C K w (Lib.hid (hno (fun h => by rw [hc] at h; cases h.2.1))) hi (.inr (.inr ⟨hC, c, r, hR, hc⟩))
      | true =>
        cases hb : Lf.brk l with
        | true => rw [hb] at hk; exact ritem_brk l r c C K w hi hC hR hc (Lib.hid (hno (fun h => by rw [hb] at h; cases h.2.2.1))) hk
        | false =>
          rw [hb] at hk
          cases hs : Lf.stop r with
          | false => exact ritem_word l r c C K w hi hC hR hc (Lib.hid (hno (fun h => by rw [hs] at h; cases h.2.2.2))) hk (by omega) hs
          | true =>
            have he := fun w => rempty_any r w (by omega)
            have hem : decide ((Cl.lead Cl.inf r 0).2 = r.length) = Fn.emp r := rfl
            rw [hem] at he
            have hall : Fn.cl l ≤ 3 ∧ Lf.bullet c = true ∧ Lf.brk l = false ∧ Lf.stop r = true := ⟨by omega, hc, hb, hs⟩
            cases hE : Fn.emp r with
            | true =>
              rw [hE] at he
              exact ritem_emp l r c C K w hi hC hR hc (Lib.hid (by rw [item_emp (hrs.trans hR) hall hE, hcl])) hk (by omega) hs he
            | false =>
              rw [hE] at he
              have hy := item_yes (hrs.trans hR) hall hE
              have hin := fun w => rindent_any r w (by omega)
              have hl2 := Cl.lead_le Cl.inf r 0
              have hcr : Fn.cl r = (Cl.lead Cl.inf r 0).1 := rfl
              rw [← hcr] at hin hl2
              have hst := fun w => rstrip_any r (Lf.inner (Fn.cl r) : Int) w (by omega)
              rcases r with _ | ⟨b, q⟩
              · cases hE
              · exact ritem_yes l (b :: q) c C K w hi hC hR hc (Fn.cl (b :: q)) _ (Lib.hid (by rw [hy, hcl])) hk (by omega) b q rfl hs he _ hin (by omega) hst
    · exact ritem_no l C K w (Lib.hid (hno (fun h => hC h.1))) hi (.inl (by omega))
end Go.Proofs.YtmbcddehacfpgaaGreatDoor

namespace Go.Proofs.YtmbcddehacfpgaaGreatDoor
open Go.RowKit

theorem headv_form (o : Option (Nat × List UInt8)) : ∃ (n : Nat) (t : List UInt8) (ok : Bool), headv o = .tuple #[.int .i64 (n : Int), .string (bs t), .bool ok] := by
  rcases o with _ | ⟨n, t⟩
  · exact ⟨0, [], false, rfl⟩
  · exact ⟨n, t, true, rfl⟩
theorem quotev_form (o : Option (List UInt8)) : ∃ (t : List UInt8) (ok : Bool), quotev o = .tuple #[.string (bs t), .bool ok] := by
  rcases o with _ | t
  · exact ⟨[], false, rfl⟩
  · exact ⟨t, true, rfl⟩
theorem itemv_form (o : Option (UInt8 × Nat × List UInt8)) : ∃ (c : UInt8) (k : Nat) (t : List UInt8) (ok : Bool), itemv o = .tuple #[.int .u8 (c.toNat : Int), .int .i64 (k : Int), .string (bs t), .bool ok] := by
  rcases o with _ | ⟨c, k, t⟩
  · exact ⟨0, 0, [], false, rfl⟩
  · exact ⟨c, k, t, true, rfl⟩

end Go.Proofs.YtmbcddehacfpgaaGreatDoor
