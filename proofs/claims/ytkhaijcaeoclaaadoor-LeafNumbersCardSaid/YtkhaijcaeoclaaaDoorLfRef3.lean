/- The document's own answer of chapter 6: items. -/
import Derived.Test.YtkhaijcaeoclaaaDoorLfRef2
namespace Go.Proofs.YtkhaijcaeoclaaaDoor
open Go.RowKit

def itemv : Option (UInt8 × Nat × List UInt8) → Value
  | none => .tuple #[.int .u8 0, .int .i64 0, .string ⟨#[]⟩, .bool false]
  | some (c, k, t) => .tuple #[.int .u8 (c.toNat : Int), .int .i64 (k : Int), .string (bs t), .bool true]

theorem item_nil {l : List UInt8} (h : Fn.rs l = []) : Lf.item l = none := by unfold Lf.item; rw [h]
theorem item_no {l r : List UInt8} {c : UInt8} (h : Fn.rs l = c :: r) (h1 : ¬ (Fn.cl l ≤ 3 ∧ Lf.bullet c = true ∧ Lf.brk l = false ∧ Lf.stop r = true)) : Lf.item l = none := by unfold Lf.item; rw [h]; simp only; rw [if_neg h1]
theorem item_emp {l r : List UInt8} {c : UInt8} (h : Fn.rs l = c :: r) (h1 : Fn.cl l ≤ 3 ∧ Lf.bullet c = true ∧ Lf.brk l = false ∧ Lf.stop r = true) (h2 : Fn.emp r = true) : Lf.item l = some (c, Fn.cl l + 2, []) := by
  unfold Lf.item; rw [h]; simp only; rw [if_pos h1, if_pos h2]
theorem item_yes {l r : List UInt8} {c : UInt8} (h : Fn.rs l = c :: r) (h1 : Fn.cl l ≤ 3 ∧ Lf.bullet c = true ∧ Lf.brk l = false ∧ Lf.stop r = true) (h2 : Fn.emp r = false) :
    Lf.item l = some (c, Fn.cl l + 1 + Lf.inner (Fn.cl r), Cl.strip (Lf.inner (Fn.cl r)) r) := by
  unfold Lf.item; rw [h]; simp only; rw [if_pos h1, if_neg (by rw [h2]; simp)]

theorem ritem_no (l : List UInt8) (C K : Nat) (w : World) (hn : Hid (Lf.item l = none))
    (hi : ∀ w, Calls Tryd.prog 28 #[.string (bs l)] w fun e w' => e = .returned (.tuple #[.int .i64 (C : Int), .int .i64 (K : Int)]) ∧ w = w')
    (hb : 3 < C ∨ (C ≤ 3 ∧ K = l.length) ∨ (C ≤ 3 ∧ ∃ c r, l.drop K = c :: r ∧ Lf.bullet c = false)) :
    Calls Tryd.prog 17 #[.string (bs l)] w fun e w' => e = .returned (itemv (Lf.item l)) ∧ Below w.heap.size w w' := by
  have hsz := bs_size l
  rcases hb with h | ⟨h, hk⟩ | ⟨h, c, r, hr, hc⟩
  · have h3 : decide ((3 : Int) < (C : Int)) = true := by simp; omega
    go_enter Tryd.func17, Tryd.ntmps17
    go_wp2_with fail
    refine (hi _).mono ?_
    rintro e w1 ⟨rfl, rfl⟩
    go_wp2_with fail
    go_returns
    exact ⟨by rw [hn.out]; rfl, Below.refl _ _⟩
  · have h3 : decide ((3 : Int) < (C : Int)) = false := by simp; omega
    have hKe : ((K : Int) == (l.length : Int)) = true := by rw [beq_iff_eq]; omega
    clear hk
    go_enter Tryd.func17, Tryd.ntmps17
    go_wp2_with fail
    refine (hi _).mono ?_
    rintro e w1 ⟨rfl, rfl⟩
    go_wp2_with fail
    go_returns
    exact ⟨by rw [hn.out]; rfl, Below.refl _ _⟩
  · have h3 : decide ((3 : Int) < (C : Int)) = false := by simp; omega
    obtain ⟨hk, _⟩ := drop_cons hr
    have hKe : ((K : Int) == (l.length : Int)) = false := by rw [beq_eq_false_iff_ne]; omega
    have hx := place_byte hr
    rcases bullet_tests c with ⟨_, h⟩ | ⟨_, _, h⟩ | ⟨_, _, _, h⟩ | ⟨t1, t2, t3, _⟩
    · rw [h] at hc; cases hc
    · rw [h] at hc; cases hc
    · rw [h] at hc; cases hc
    · have n1 := ne_of_ne t1
      have n2 := ne_of_ne t2
      have n3 := ne_of_ne t3
      clear hc hr
      go_enter Tryd.func17, Tryd.ntmps17
      go_wp2_with fail
      refine (hi _).mono ?_
      rintro e w1 ⟨rfl, rfl⟩
      go_wp2_with fail
      go_returns
      exact ⟨by rw [hn.out]; rfl, Below.refl _ _⟩

/-- the three tests of a sign that is one -/
theorem bullet_ways {c : UInt8} (h : Lf.bullet c = true) : (((c.toNat : Int) != 42) = false) ∨ (((c.toNat : Int) != 42) = true ∧ ((c.toNat : Int) != 45) = false) ∨
    (((c.toNat : Int) != 42) = true ∧ ((c.toNat : Int) != 45) = true ∧ ((c.toNat : Int) != 43) = false) := by
  rcases bullet_tests c with ⟨t1, _⟩ | ⟨t1, t2, _⟩ | ⟨t1, t2, t3, _⟩ | ⟨_, _, _, h'⟩
  · exact .inl (ne_of_eq t1)
  · exact .inr (.inl ⟨ne_of_ne t1, ne_of_eq t2⟩)
  · exact .inr (.inr ⟨ne_of_ne t1, ne_of_ne t2, ne_of_eq t3⟩)
  · rw [h] at h'; cases h'

section
variable (l r : List UInt8) (c : UInt8) (C K : Nat) (w : World)
    (hi : ∀ w, Calls Tryd.prog 28 #[.string (bs l)] w fun e w' => e = .returned (.tuple #[.int .i64 (C : Int), .int .i64 (K : Int)]) ∧ w = w')
    (h : C ≤ 3) (hr : l.drop K = c :: r) (hc : Lf.bullet c = true)

set_option maxHeartbeats 1000000 in
include hi h hr hc in
theorem ritem_brk (hn : Hid (Lf.item l = none)) (hk : ∀ w, Calls Tryd.prog 18 #[.string (bs l)] w fun e w' => e = .returned (.bool true) ∧ Below w.heap.size w w') :
    Calls Tryd.prog 17 #[.string (bs l)] w fun e w' => e = .returned (itemv (Lf.item l)) ∧ Below w.heap.size w w' := by
  have hsz := bs_size l
  have h3 : decide ((3 : Int) < (C : Int)) = false := by simp; omega
  obtain ⟨hkl, _⟩ := drop_cons hr
  have hKe : ((K : Int) == (l.length : Int)) = false := by rw [beq_eq_false_iff_ne]; omega
  have hx := place_byte hr
  have hw := bullet_ways hc
  clear hc hr
  rcases hw with n1 | ⟨n1, n2⟩ | ⟨n1, n2, n3⟩
  all_goals
    go_enter Tryd.func17, Tryd.ntmps17
    go_wp2_with fail
    refine (hi _).mono ?_
    rintro e w1 ⟨rfl, rfl⟩
    go_wp2_with fail
    refine (hk _).mono ?_
    rintro e w1 ⟨rfl, hb1⟩
    go_wp2_with fail
    go_returns
    exact ⟨by rw [hn.out]; rfl, hb1⟩

set_option maxHeartbeats 1000000 in
include hi h hr hc in
theorem ritem_word (hn : Hid (Lf.item l = none)) (hk : ∀ w, Calls Tryd.prog 18 #[.string (bs l)] w fun e w' => e = .returned (.bool false) ∧ Below w.heap.size w w')
    (hl : l.length ≤ 140737488355328) (hs : Lf.stop r = false) :
    Calls Tryd.prog 17 #[.string (bs l)] w fun e w' => e = .returned (itemv (Lf.item l)) ∧ Below w.heap.size w w' := by
  have hsz := bs_size l
  have h3 : decide ((3 : Int) < (C : Int)) = false := by simp; omega
  obtain ⟨hkl, _⟩ := drop_cons hr
  have hKe : ((K : Int) == (l.length : Int)) = false := by rw [beq_eq_false_iff_ne]; omega
  have hx := place_byte hr
  have hts := tail_from (l := l) (K := K) (n := 1) (by omega)
  rw [hr, List.drop_succ_cons, List.drop_zero, show ((1 : Nat) : Int) = 1 from rfl] at hts
  obtain ⟨b, q, rfl⟩ : ∃ b q, r = b :: q := by
    rcases r with _ | ⟨b, q⟩
    · cases hs
    · exact ⟨b, q, rfl⟩
  have hem := text_cons b q
  have hx2 := run_byte (S := b :: q) (i := 0) (by simp)
  rw [List.getElem_cons_zero, show ((0 : Nat) : Int) = 0 from rfl] at hx2
  have hw := bullet_ways hc
  have g1 : ((b.toNat : Int) != 32) = true ∧ ((b.toNat : Int) != 9) = true := by
    rcases gap_tests b with ⟨_, g⟩ | ⟨_, _, g⟩ | ⟨g1, g2, _⟩
    · exact absurd (show Cl.isGap b = false from hs) (by rw [g]; simp)
    · exact absurd (show Cl.isGap b = false from hs) (by rw [g]; simp)
    · exact ⟨ne_of_ne g1, ne_of_ne g2⟩
  obtain ⟨g1, g2⟩ := g1
  clear hc hr hs
  rcases hw with n1 | ⟨n1, n2⟩ | ⟨n1, n2, n3⟩
  all_goals
    go_enter Tryd.func17, Tryd.ntmps17
    go_wp2_with fail
    refine (hi _).mono ?_
    rintro e w1 ⟨rfl, rfl⟩
    go_wp2_with fail
    refine (hk _).mono ?_
    rintro e w1 ⟨rfl, hb1⟩
    go_wp2_with fail
    go_returns
    exact ⟨by rw [hn.out]; rfl, hb1⟩

set_option maxHeartbeats 2000000 in
include hi h hr hc in
theorem ritem_emp (hn : Hid (Lf.item l = some (c, C + 2, []))) (hk : ∀ w, Calls Tryd.prog 18 #[.string (bs l)] w fun e w' => e = .returned (.bool false) ∧ Below w.heap.size w w')
    (hl : l.length ≤ 140737488355328) (hs : Lf.stop r = true) (he : ∀ w, Calls Tryd.prog 33 #[.string (bs r)] w fun e w' => e = .returned (.bool true) ∧ w = w') :
    Calls Tryd.prog 17 #[.string (bs l)] w fun e w' => e = .returned (itemv (Lf.item l)) ∧ Below w.heap.size w w' := by
  have hsz := bs_size l
  have h3 : decide ((3 : Int) < (C : Int)) = false := by simp; omega
  obtain ⟨hkl, _⟩ := drop_cons hr
  have hKe : ((K : Int) == (l.length : Int)) = false := by rw [beq_eq_false_iff_ne]; omega
  have hx := place_byte hr
  have hts := tail_from (l := l) (K := K) (n := 1) (by omega)
  rw [hr, List.drop_succ_cons, List.drop_zero, show ((1 : Nat) : Int) = 1 from rfl] at hts
  have hw := bullet_ways hc
  have hways : ((bs r).toList.isEmpty = true) ∨ ((bs r).toList.isEmpty = false ∧ ∃ b : UInt8, (∀ w, (Instr.index 9 (.string (bs r)) (.int .i64 0)).run Tryd.prog w = .ok (.int .u8 (b.toNat : Int)) w) ∧ (((b.toNat : Int) != 32) = false ∨ (((b.toNat : Int) != 32) = true ∧ ((b.toNat : Int) != 9) = false))) := by
    rcases r with _ | ⟨b, q⟩
    · exact .inl text_nil
    · refine .inr ⟨text_cons b q, b, ?_, ?_⟩
      · have hx2 := run_byte (S := b :: q) (i := 0) (by simp)
        rw [List.getElem_cons_zero, show ((0 : Nat) : Int) = 0 from rfl] at hx2
        exact hx2
      · rcases gap_tests b with ⟨g1, _⟩ | ⟨g1, g2, _⟩ | ⟨_, _, g⟩
        · exact .inl (ne_of_eq g1)
        · exact .inr ⟨ne_of_ne g1, ne_of_eq g2⟩
        · exact absurd (show Cl.isGap b = true from hs) (by rw [g]; simp)
  clear hc hr hs
  rcases hw with n1 | ⟨n1, n2⟩ | ⟨n1, n2, n3⟩
  all_goals
    rcases hways with e0 | ⟨e0, b, hx2, g1 | ⟨g1, g2⟩⟩
    all_goals
      go_enter Tryd.func17, Tryd.ntmps17
      go_wp2_with fail
      refine (hi _).mono ?_
      rintro e w1 ⟨rfl, rfl⟩
      go_wp2_with fail
      refine (hk _).mono ?_
      rintro e w1 ⟨rfl, hb1⟩
      go_wp2_with fail
      refine (he _).mono ?_
      rintro e w1 ⟨rfl, rfl⟩
      go_wp2_with fail
      go_returns
      exact ⟨by rw [hn.out]; rfl, hb1⟩

set_option maxHeartbeats 4000000 in
include hi h hr hc in
theorem ritem_yes (n : Nat) (S : List UInt8) (hn : Hid (Lf.item l = some (c, C + 1 + Lf.inner n, S))) (hk : ∀ w, Calls Tryd.prog 18 #[.string (bs l)] w fun e w' => e = .returned (.bool false) ∧ Below w.heap.size w w')
    (hl : l.length ≤ 140737488355328) (b : UInt8) (q : List UInt8) (hrb : r = b :: q) (hs : Cl.isGap b = true) (he : ∀ w, Calls Tryd.prog 33 #[.string (bs r)] w fun e w' => e = .returned (.bool false) ∧ w = w')
    (k : Nat) (hin : ∀ w, Calls Tryd.prog 28 #[.string (bs r)] w fun e w' => e = .returned (.tuple #[.int .i64 (n : Int), .int .i64 (k : Int)]) ∧ w = w') (hnl : n ≤ 1000000000000000)
    (hst : ∀ w, Calls Tryd.prog 32 #[.string (bs r), .int .i64 (Lf.inner n : Int)] w fun e w' => e = .returned (.string (bs S)) ∧ w = w') :
    Calls Tryd.prog 17 #[.string (bs l)] w fun e w' => e = .returned (itemv (Lf.item l)) ∧ Below w.heap.size w w' := by
  have hsz := bs_size l
  have h3 : decide ((3 : Int) < (C : Int)) = false := by simp; omega
  obtain ⟨hkl, _⟩ := drop_cons hr
  have hKe : ((K : Int) == (l.length : Int)) = false := by rw [beq_eq_false_iff_ne]; omega
  have hx := place_byte hr
  have hts := tail_from (l := l) (K := K) (n := 1) (by omega)
  rw [hr, List.drop_succ_cons, List.drop_zero, show ((1 : Nat) : Int) = 1 from rfl] at hts
  have hw := bullet_ways hc
  have e0 := text_cons b q
  have hx2 := run_byte (S := b :: q) (i := 0) (by simp)
  rw [List.getElem_cons_zero, show ((0 : Nat) : Int) = 0 from rfl] at hx2
  rw [← hrb] at e0 hx2
  have hways : (((b.toNat : Int) != 32) = false ∨ (((b.toNat : Int) != 32) = true ∧ ((b.toNat : Int) != 9) = false)) := by
    rcases gap_tests b with ⟨g1, _⟩ | ⟨g1, g2, _⟩ | ⟨_, _, g⟩
    · exact .inl (ne_of_eq g1)
    · exact .inr ⟨ne_of_ne g1, ne_of_eq g2⟩
    · rw [hs] at g; cases g
  have hcz : C ≤ 1000000000000000 := by omega
  have hinn : (decide ((4 : Int) < (n : Int)) = true ∧ Lf.inner n = 1) ∨ (decide ((4 : Int) < (n : Int)) = false ∧ Lf.inner n = n) := by
    unfold Lf.inner
    by_cases h4 : 4 < n
    · exact .inl ⟨by simp; omega, if_pos h4⟩
    · exact .inr ⟨by simp; omega, if_neg h4⟩
  clear hc hr hs hrb
  rcases hinn with ⟨h4, hi4⟩ | ⟨h4, hi4⟩
  all_goals
    rw [hi4] at hst hn
    try rw [show ((1 : Nat) : Int) = 1 from rfl] at hst
    clear hi4
    rcases hw with n1 | ⟨n1, n2⟩ | ⟨n1, n2, n3⟩
    all_goals
      rcases hways with g1 | ⟨g1, g2⟩
      all_goals
        go_enter Tryd.func17, Tryd.ntmps17
        go_wp2_with fail
        refine (hi _).mono ?_
        rintro e w1 ⟨rfl, rfl⟩
        go_wp2_with fail
        refine (hk _).mono ?_
        rintro e w1 ⟨rfl, hb1⟩
        go_wp2_with fail
        refine (he _).mono ?_
        rintro e w2 ⟨rfl, rfl⟩
        go_wp2_with fail
        refine (hin _).mono ?_
        rintro e w2 ⟨rfl, rfl⟩
        clear hi hk he hin hts
        go_wp2_with fail
        go_quiet ((go_at_call 32; exact (hst _).mono (fun _ _ h => ⟨h.1, _, h.2.symm⟩)))
        go_wp2_with fail
        go_returns
        exact ⟨by rw [hn.out]; rfl, below_drewN hb1 _⟩
end

theorem ritem_any (l : List UInt8) (w : World) (hl : l.length + 3 ≤ 140737488355328) :
    Calls Tryd.prog 17 #[.string (bs l)] w fun e w' => e = .returned (itemv (Lf.item l)) ∧ Below w.heap.size w w' := by
  have hi := fun w => rindent_any l w (by omega)
  have hle := Cl.lead_le Cl.inf l 0
  have hcl : Fn.cl l = (Cl.lead Cl.inf l 0).1 := rfl
  have hrs : Fn.rs l = l.drop (Cl.lead Cl.inf l 0).2 := rfl
  obtain ⟨C, K, hCK⟩ : ∃ C K, Cl.lead Cl.inf l 0 = (C, K) := ⟨_, _, rfl⟩
  rw [hCK] at hi hle hcl hrs
  simp only at hi hle hcl hrs
  clear hCK
  have hk := fun w => rbrk_any l w (by omega)
  rcases hR : l.drop K with _ | ⟨c, r⟩
  · have hn := Lib.hid (item_nil (hrs.trans hR))
    by_cases hC : C ≤ 3
    · exact ritem_no l C K w hn hi (.inr (.inl ⟨hC, end_place hR (by omega)⟩))
    · exact ritem_no l C K w hn hi (.inl (by omega))
  · have hno := @item_no l r c (hrs.trans hR)
    have hlen := congrArg List.length hR
    rw [List.length_drop, List.length_cons] at hlen
    rw [hcl] at hno
    by_cases hC : C ≤ 3
    · cases hc : Lf.bullet c with
      | false => exact ritem_no l C K w (Lib.hid (hno (fun h => by rw [hc] at h; cases h.2.1))) hi (.inr (.inr ⟨hC, c, r, hR, hc⟩))
      | true =>
        cases hb : Lf.brk l with
        | true => rw [hb] at hk; exact ritem_brk l r c C K w hi hC hR hc (Lib.hid (hno (fun h => by rw [hb] at h; cases h.2.2.1))) hk
        | false =>
          rw [hb] at hk
          cases hs : Lf.stop r with
          | false => exact ritem_word l r c C K w hi hC hR hc (Lib.hid (hno (fun h => by rw [hs] at h; cases h.2.2.2))) hk (by omega) hs
          | true =>
            have he := fun w => rempty_any r w (by omega)
            have hem : decide ((Cl.lead Cl.inf r 0).2 = r.length) = Fn.emp r := rfl
            rw [hem] at he
            have hall : Fn.cl l ≤ 3 ∧ Lf.bullet c = true ∧ Lf.brk l = false ∧ Lf.stop r = true := ⟨by omega, hc, hb, hs⟩
            cases hE : Fn.emp r with
            | true =>
              rw [hE] at he
              exact ritem_emp l r c C K w hi hC hR hc (Lib.hid (by rw [item_emp (hrs.trans hR) hall hE, hcl])) hk (by omega) hs he
            | false =>
              rw [hE] at he
              have hy := item_yes (hrs.trans hR) hall hE
              have hin := fun w => rindent_any r w (by omega)
              have hl2 := Cl.lead_le Cl.inf r 0
              have hcr : Fn.cl r = (Cl.lead Cl.inf r 0).1 := rfl
              rw [← hcr] at hin hl2
              have hst := fun w => rstrip_any r (Lf.inner (Fn.cl r) : Int) w (by omega)
              rcases r with _ | ⟨b, q⟩
              · cases hE
              · exact ritem_yes l (b :: q) c C K w hi hC hR hc (Fn.cl (b :: q)) _ (Lib.hid (by rw [hy, hcl])) hk (by omega) b q rfl hs he _ hin (by omega) hst
    · exact ritem_no l C K w (Lib.hid (hno (fun h => hC h.1))) hi (.inl (by omega))
end Go.Proofs.YtkhaijcaeoclaaaDoor
