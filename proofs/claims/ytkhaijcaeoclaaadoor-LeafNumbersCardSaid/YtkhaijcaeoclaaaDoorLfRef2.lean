/- The document's own answer of chapter 6: quotes and headings. -/
import Derived.Test.YtkhaijcaeoclaaaDoorLfRef
namespace Go.Proofs.YtkhaijcaeoclaaaDoor
open Go.RowKit

def quotev : Option (List UInt8) → Value
  | none => .tuple #[.string ⟨#[]⟩, .bool false]
  | some r => .tuple #[.string (bs r), .bool true]
def headv : Option (Nat × List UInt8) → Value
  | none => .tuple #[.int .i64 0, .string ⟨#[]⟩, .bool false]
  | some (n, t) => .tuple #[.int .i64 (n : Int), .string (bs t), .bool true]

theorem quote_nil {l : List UInt8} (h : Fn.rs l = []) : Lf.quote l = none := by unfold Lf.quote; rw [h]
theorem quote_no {l r : List UInt8} {c : UInt8} (h : Fn.rs l = c :: r) (h1 : ¬ (Fn.cl l ≤ 3 ∧ c = 62)) : Lf.quote l = none := by unfold Lf.quote; rw [h]; simp only; rw [if_neg h1]
theorem quote_yes {l r : List UInt8} {c : UInt8} (h : Fn.rs l = c :: r) (h1 : Fn.cl l ≤ 3 ∧ c = 62) : Lf.quote l = some (Cl.strip 1 r) := by unfold Lf.quote; rw [h]; simp only; rw [if_pos h1]
theorem end_place {l : List UInt8} {K : Nat} (h : l.drop K = []) (hK : K ≤ l.length) : K = l.length := by
  have := congrArg List.length h
  rw [List.length_drop] at this
  simp at this; omega

theorem rquote_no (l : List UInt8) (C K : Nat) (w : World) (hn : Hid (Lf.quote l = none))
    (hi : ∀ w, Calls Tryd.prog 28 #[.string (bs l)] w fun e w' => e = .returned (.tuple #[.int .i64 (C : Int), .int .i64 (K : Int)]) ∧ w = w')
    (hb : 3 < C ∨ (C ≤ 3 ∧ K = l.length) ∨ (C ≤ 3 ∧ ∃ c r, l.drop K = c :: r ∧ c ≠ 62)) :
    Calls Tryd.prog 16 #[.string (bs l)] w fun e w' => e = .returned (quotev (Lf.quote l)) ∧ w = w' := by
  have hsz := bs_size l
  rcases hb with h | ⟨h, hk⟩ | ⟨h, c, r, hr, hc⟩
  · have h3 : decide ((3 : Int) < (C : Int)) = true := by simp; omega
    go_enter Tryd.func16, Tryd.ntmps16
    go_wp2_with fail
    refine (hi _).mono ?_
    rintro e w1 ⟨rfl, rfl⟩
    go_wp2_with fail
    go_returns
    exact ⟨by rw [hn.out]; rfl, rfl⟩
  · have h3 : decide ((3 : Int) < (C : Int)) = false := by simp; omega
    have hKe : ((K : Int) == (l.length : Int)) = true := by rw [beq_iff_eq]; omega
    clear hk
    go_enter Tryd.func16, Tryd.ntmps16
    go_wp2_with fail
    refine (hi _).mono ?_
    rintro e w1 ⟨rfl, rfl⟩
    go_wp2_with fail
    go_returns
    exact ⟨by rw [hn.out]; rfl, rfl⟩
  · have h3 : decide ((3 : Int) < (C : Int)) = false := by simp; omega
    obtain ⟨hk, _⟩ := drop_cons hr
    have hKe : ((K : Int) == (l.length : Int)) = false := by rw [beq_eq_false_iff_ne]; omega
    have hx := place_byte hr
    have t1 := byte_ne (n := 62) (by omega) hc
    have n1 := ne_of_ne t1
    clear hc hr
    go_enter Tryd.func16, Tryd.ntmps16
    go_wp2_with fail
    refine (hi _).mono ?_
    rintro e w1 ⟨rfl, rfl⟩
    go_wp2_with fail
    go_returns
    exact ⟨by rw [hn.out]; rfl, rfl⟩

theorem rquote_yes (l r : List UInt8) (C K : Nat) (w : World) (hn : Hid (Lf.quote l = some (Cl.strip 1 r))) (hl : l.length + 3 ≤ 140737488355328)
    (hi : ∀ w, Calls Tryd.prog 28 #[.string (bs l)] w fun e w' => e = .returned (.tuple #[.int .i64 (C : Int), .int .i64 (K : Int)]) ∧ w = w')
    (h : C ≤ 3) (hr : l.drop K = 62 :: r) :
    Calls Tryd.prog 16 #[.string (bs l)] w fun e w' => e = .returned (quotev (Lf.quote l)) ∧ w = w' := by
  have hsz := bs_size l
  have h3 : decide ((3 : Int) < (C : Int)) = false := by simp; omega
  obtain ⟨hk, _⟩ := drop_cons hr
  have hKe : ((K : Int) == (l.length : Int)) = false := by rw [beq_eq_false_iff_ne]; omega
  have hx := place_byte hr
  have hts := tail_from (l := l) (K := K) (n := 1) (by omega)
  rw [hr, List.drop_succ_cons, List.drop_zero, show ((1 : Nat) : Int) = 1 from rfl] at hts
  have hlen := congrArg List.length hr
  rw [List.length_drop, List.length_cons] at hlen
  have hst := fun w => rstrip_any r 1 w (by omega)
  clear hr
  go_enter Tryd.func16, Tryd.ntmps16
  go_wp2_with fail
  refine (hi _).mono ?_
  rintro e w1 ⟨rfl, rfl⟩
  go_wp2_with fail
  refine (hst _).mono ?_
  rintro e w1 ⟨rfl, rfl⟩
  go_wp2_with fail
  go_returns
  exact ⟨by rw [hn.out]; rfl, rfl⟩

theorem rquote_any (l : List UInt8) (w : World) (hl : l.length + 3 ≤ 140737488355328) :
    Calls Tryd.prog 16 #[.string (bs l)] w fun e w' => e = .returned (quotev (Lf.quote l)) ∧ w = w' := by
  have hi := fun w => rindent_any l w (by omega)
  have hle := Cl.lead_le Cl.inf l 0
  have hcl : Fn.cl l = (Cl.lead Cl.inf l 0).1 := rfl
  have hrs : Fn.rs l = l.drop (Cl.lead Cl.inf l 0).2 := rfl
  obtain ⟨C, K, hCK⟩ : ∃ C K, Cl.lead Cl.inf l 0 = (C, K) := ⟨_, _, rfl⟩
  rw [hCK] at hi hle hcl hrs
  simp only at hi hle hcl hrs
  clear hCK
  rcases hR : l.drop K with _ | ⟨c, r⟩
  · have hn := Lib.hid (quote_nil (hrs.trans hR))
    by_cases hC : C ≤ 3
    · exact rquote_no l C K w hn hi (.inr (.inl ⟨hC, end_place hR (by omega)⟩))
    · exact rquote_no l C K w hn hi (.inl (by omega))
  · by_cases hC : C ≤ 3
    · by_cases hc : c = 62
      · subst hc
        exact rquote_yes l r C K w (Lib.hid (quote_yes (hrs.trans hR) ⟨by omega, rfl⟩)) hl hi hC hR
      · exact rquote_no l C K w (Lib.hid (quote_no (hrs.trans hR) (fun h => hc h.2))) hi (.inr (.inr ⟨hC, c, r, hR, hc⟩))
    · exact rquote_no l C K w (Lib.hid (quote_no (hrs.trans hR) (fun h => hC (by omega)))) hi (.inl (by omega))

theorem head_no {l : List UInt8} (h : ¬ (Fn.cl l ≤ 3 ∧ 1 ≤ Fn.run 35 (Fn.rs l) ∧ Fn.run 35 (Fn.rs l) ≤ 6 ∧ Lf.stop ((Fn.rs l).drop (Fn.run 35 (Fn.rs l))) = true)) : Lf.heading l = none := if_neg h
theorem head_yes {l : List UInt8} (h : Fn.cl l ≤ 3 ∧ 1 ≤ Fn.run 35 (Fn.rs l) ∧ Fn.run 35 (Fn.rs l) ≤ 6 ∧ Lf.stop ((Fn.rs l).drop (Fn.run 35 (Fn.rs l))) = true) :
    Lf.heading l = some (Fn.run 35 (Fn.rs l), Lf.title (Fn.trim ((Fn.rs l).drop (Fn.run 35 (Fn.rs l))))) := if_pos h
theorem place_sum {l q : List UInt8} {b : UInt8} {K n : Nat} (h : (l.drop K).drop n = b :: q) (w : World) :
    (Instr.index 9 (.string (bs l)) (.int .i64 ((K : Int) + (n : Int)))).run Tryd.prog w = .ok (.int .u8 (b.toNat : Int)) w := by
  rw [List.drop_drop] at h
  have := place_byte h w
  rwa [Int.natCast_add] at this

set_option maxHeartbeats 1000000 in
theorem rhead_no (l : List UInt8) (C K n : Nat) (w : World) (hn : Hid (Lf.heading l = none)) (hl : l.length ≤ 140737488355328)
    (hi : ∀ w, Calls Tryd.prog 28 #[.string (bs l)] w fun e w' => e = .returned (.tuple #[.int .i64 (C : Int), .int .i64 (K : Int)]) ∧ w = w')
    (hrun : ∀ w, Calls Tryd.prog 29 #[.string (bs l), .int .i64 (K : Int), .int .u8 35] w fun e w' => e = .returned (.int .i64 (n : Int)) ∧ w = w')
    (hb : 3 < C ∨ (C ≤ 3 ∧ n < 1) ∨ (C ≤ 3 ∧ 1 ≤ n ∧ 6 < n) ∨ (C ≤ 3 ∧ 1 ≤ n ∧ n ≤ 6 ∧ ∃ b q, (l.drop K).drop n = b :: q ∧ Cl.isGap b = false)) :
    Calls Tryd.prog 15 #[.string (bs l)] w fun e w' => e = .returned (headv (Lf.heading l)) ∧ w = w' := by
  have hsz := bs_size l
  rcases hb with h | ⟨h, h1⟩ | ⟨h, h1, h2⟩ | ⟨h, h1, h2, b, q, hr, hg⟩
  · have h3 : decide ((3 : Int) < (C : Int)) = true := by simp; omega
    go_enter Tryd.func15, Tryd.ntmps15
    go_wp2_with fail
    refine (hi _).mono ?_
    rintro e w1 ⟨rfl, rfl⟩
    go_wp2_with fail
    refine (hrun _).mono ?_
    rintro e w1 ⟨rfl, rfl⟩
    go_wp2_with fail
    go_returns
    exact ⟨by rw [hn.out]; rfl, rfl⟩
  · have h3 : decide ((3 : Int) < (C : Int)) = false := by simp; omega
    have h4 : decide ((n : Int) < 1) = true := by simp; omega
    go_enter Tryd.func15, Tryd.ntmps15
    go_wp2_with fail
    refine (hi _).mono ?_
    rintro e w1 ⟨rfl, rfl⟩
    go_wp2_with fail
    refine (hrun _).mono ?_
    rintro e w1 ⟨rfl, rfl⟩
    go_wp2_with fail
    go_returns
    exact ⟨by rw [hn.out]; rfl, rfl⟩
  · have h3 : decide ((3 : Int) < (C : Int)) = false := by simp; omega
    have h4 : decide ((n : Int) < 1) = false := by simp; omega
    have h5 : decide ((6 : Int) < (n : Int)) = true := by simp; omega
    go_enter Tryd.func15, Tryd.ntmps15
    go_wp2_with fail
    refine (hi _).mono ?_
    rintro e w1 ⟨rfl, rfl⟩
    go_wp2_with fail
    refine (hrun _).mono ?_
    rintro e w1 ⟨rfl, rfl⟩
    go_wp2_with fail
    go_returns
    exact ⟨by rw [hn.out]; rfl, rfl⟩
  · have h3 : decide ((3 : Int) < (C : Int)) = false := by simp; omega
    have h4 : decide ((n : Int) < 1) = false := by simp; omega
    have h5 : decide ((6 : Int) < (n : Int)) = false := by simp; omega
    have hx := place_sum hr
    have hkn : K + n < l.length := by have := congrArg List.length hr; rw [List.length_drop, List.length_drop, List.length_cons] at this; omega
    have h6 : decide ((K : Int) + (n : Int) < (l.length : Int)) = true := by simp; omega
    rcases gap_tests b with ⟨_, g⟩ | ⟨_, _, g⟩ | ⟨g1, g2, _⟩
    · rw [g] at hg; cases hg
    · rw [g] at hg; cases hg
    · have n1 := ne_of_ne g1
      have n2 := ne_of_ne g2
      clear hg hr
      go_enter Tryd.func15, Tryd.ntmps15
      go_wp2_with fail
      refine (hi _).mono ?_
      rintro e w1 ⟨rfl, rfl⟩
      go_wp2_with fail
      refine (hrun _).mono ?_
      rintro e w1 ⟨rfl, rfl⟩
      go_wp2_with fail
      go_returns
      exact ⟨by rw [hn.out]; rfl, rfl⟩

/-- what is left of a text when its last signs go -/
theorem unhash_end {t : List UInt8} {m : Nat} (h : Hid (Lf.unhash (t.take m) = Lf.unhash t)) (hm : m ≤ t.length) (hs : m = 0 ∨ ∃ j, ∃ hj : j < t.length, m = j + 1 ∧ t[j] ≠ 35) : Lf.unhash t = t.take m := by
  rcases hs with rfl | ⟨j, hj, rfl, hne⟩
  · rw [← h.out]; rfl
  · rw [← h.out, List.take_succ_eq_append_getElem hj, Lf.unhash_snoc_word _ hne]
theorem unhash_next {t : List UInt8} {j : Nat} (hj : j < t.length) (h : Hid (Lf.unhash (t.take (j + 1)) = Lf.unhash t)) (hs : t[j] = 35) : Hid (Lf.unhash (t.take j) = Lf.unhash t) := by
  refine Lib.hid ?_
  rw [← h.out, List.take_succ_eq_append_getElem hj, hs, Lf.unhash_snoc_sign]
theorem closed_zero {t : List UInt8} : Lf.closed (t.take 0) = true := rfl
theorem closed_last {t : List UInt8} {j : Nat} (hj : j < t.length) : Lf.closed (t.take (j + 1)) = Cl.isGap t[j] := by
  unfold Lf.closed
  rw [List.take_succ_eq_append_getElem hj, List.getLast?_concat]

set_option maxHeartbeats 4000000 in
theorem rhead_yes (l X : List UInt8) (C K n : Nat) (w : World) (hn : Hid (Lf.heading l = some (n, Lf.title (Fn.trim X)))) (hl : l.length ≤ 140737488355328)
    (hi : ∀ w, Calls Tryd.prog 28 #[.string (bs l)] w fun e w' => e = .returned (.tuple #[.int .i64 (C : Int), .int .i64 (K : Int)]) ∧ w = w')
    (hrun : ∀ w, Calls Tryd.prog 29 #[.string (bs l), .int .i64 (K : Int), .int .u8 35] w fun e w' => e = .returned (.int .i64 (n : Int)) ∧ w = w')
    (h : C ≤ 3) (h1 : 1 ≤ n) (h2 : n ≤ 6) (hKn : K + n ≤ l.length) (hX : (l.drop K).drop n = X) (hst : Lf.stop X = true) :
    Calls Tryd.prog 15 #[.string (bs l)] w fun e w' => e = .returned (headv (Lf.heading l)) ∧ w = w' := by
  have hsz := bs_size l
  have h3 : decide ((3 : Int) < (C : Int)) = false := by simp; omega
  have h4 : decide ((n : Int) < 1) = false := by simp; omega
  have h5 : decide ((6 : Int) < (n : Int)) = false := by simp; omega
  have hts := tail_from (l := l) (K := K) (n := n) hKn
  have hXl : X.length = l.length - K - n := by rw [← hX, List.length_drop, List.length_drop]
  have hxs := fun b q (e : X = b :: q) => @place_sum l q b K n (hX.trans e)
  rw [hX] at hts
  have htr := fun w => rtrim_any X w (by omega)
  have htl := Fn.trim_len X
  obtain ⟨t, ht⟩ : ∃ t, Fn.trim X = t := ⟨_, rfl⟩
  rw [ht] at htr hn htl
  have hzt := bs_size t
  replace htl : t.length ≤ 140737488355328 := by omega
  have hbk := fun m w => rback_any (t.take m) w (by rw [List.length_take]; omega)
  have hfy : Hid (Lf.closed (Lf.unhash t) = true → Lf.heading l = some (n, Fn.back (Lf.unhash t))) := Lib.hid (fun h => by rw [hn.out]; unfold Lf.title; rw [if_pos h])
  have hfn : Hid (Lf.closed (Lf.unhash t) = false → Lf.heading l = some (n, t)) := Lib.hid (fun h => by rw [hn.out]; unfold Lf.title; rw [if_neg (by rw [h]; simp)])
  clear ht hn hX
  have hways : (decide ((K : Int) + (n : Int) < (l.length : Int)) = false) ∨ (decide ((K : Int) + (n : Int) < (l.length : Int)) = true ∧ ∃ b : UInt8, (∀ w, (Instr.index 9 (.string (bs l)) (.int .i64 ((K : Int) + (n : Int)))).run Tryd.prog w = .ok (.int .u8 (b.toNat : Int)) w) ∧ (((b.toNat : Int) != 32) = false ∨ (((b.toNat : Int) != 32) = true ∧ ((b.toNat : Int) != 9) = false))) := by
    rcases hXc : X with _ | ⟨b, q⟩
    · left; rw [hXc] at hXl; simp at hXl ⊢; omega
    · right
      refine ⟨by rw [hXc, List.length_cons] at hXl; simp; omega, b, hxs b q hXc, ?_⟩
      rw [hXc] at hst
      rcases gap_tests b with ⟨g1, _⟩ | ⟨g1, g2, _⟩ | ⟨_, _, g⟩
      · exact .inl (ne_of_eq g1)
      · exact .inr ⟨ne_of_ne g1, ne_of_eq g2⟩
      · exact absurd (show Cl.isGap b = true from hst) (by rw [g]; simp)
  clear hxs hst hXl
  rcases hways with h6 | ⟨h6, b, hx, n1 | ⟨n1, n2⟩⟩
  all_goals
    go_enter Tryd.func15, Tryd.ntmps15
    go_wp2_with fail
    refine (hi _).mono ?_
    rintro e w1 ⟨rfl, rfl⟩
    go_wp2_with fail
    refine (hrun _).mono ?_
    rintro e w1 ⟨rfl, rfl⟩
    go_wp2_with fail
    refine (htr _).mono ?_
    rintro e w1 ⟨rfl, rfl⟩
    clear hi hrun htr hts
    go_wp2_with fail
    go_loop [9] (fun u => ∃ m : Nat, m ≤ t.length ∧ u = .int .i64 (m : Int) ∧ Hid (Lf.unhash (t.take m) = Lf.unhash t)) (fun u => (intOf u).toNat)
    case atStart => exact ⟨t.length, Nat.le_refl _, rfl, Lib.hid (by rw [List.take_length])⟩
    case round =>
      obtain ⟨m, hm, rfl, hf⟩ := hrel
      have hend := unhash_end hf hm
      have hb := hbk m
      have hup := run_upto (S := t) (i := m) hm
      rcases (show m = 0 ∨ ∃ j, m = j + 1 from by rcases m with _ | j; · exact .inl rfl
                                                  · exact .inr ⟨j, rfl⟩) with rfl | ⟨j, hmj⟩
      · have hfin := Lib.hid (hfy.out (by rw [hend (.inl rfl)]; rfl))
        have hfin2 : Hid (Lf.unhash t = t.take 0) := Lib.hid (hend (.inl rfl))
        rw [show ((0 : Nat) : Int) = 0 from rfl] at hup
        clear hend hbk hfy hfn
        go_wp2_with fail
        refine (hb _).mono ?_
        rintro e w1 ⟨rfl, rfl⟩
        go_wp2_with fail
        go_returns
        exact ⟨by rw [hfin.out, hfin2.out]; rfl, rfl⟩
      · have hj : j < t.length := by omega
        have hx2 := run_byte hj
        have hcl := closed_last hj
        have hd : (m : Int) - 1 = (j : Int) := by omega
        have hp : decide ((0 : Int) < (m : Int)) = true := by simp; omega
        have hz : ((m : Int) == 0) = false := by rw [beq_eq_false_iff_ne]; omega
        by_cases hs : t[j] = 35
        · have hf2 := unhash_next hj (by rw [← hmj]; exact hf) hs
          have hmj2 := Lib.hid hmj
          have hq := byte_eq (n := 35) (by omega) hs
          obtain ⟨b, hb2⟩ : ∃ b, t[j] = b := ⟨_, rfl⟩
          rw [hb2] at hx2 hq
          clear hend hb hup hcl hs hb2 hbk hfy hfn hmj
          go_wp2_with fail
          go_round
          case rel => exact ⟨j, by omega, by go_num, hf2⟩
          case measure => have := hmj2.out; simp [intOf]; omega
        · have hq := byte_ne (n := 35) (by omega) hs
          have he := hend (.inr ⟨j, hj, hmj, hs⟩)
          rw [← hmj, ← he] at hcl
          obtain ⟨b, hb2⟩ : ∃ b, t[j] = b := ⟨_, rfl⟩
          rw [hb2] at hx2 hq hcl
          replace he := Lib.hid he
          clear hs hb2 hend hbk hmj
          rcases gap_tests b with ⟨g1, g⟩ | ⟨g1, g2, g⟩ | ⟨g1, g2, g⟩
          case inr.inr =>
            have hfin := Lib.hid (hfn.out (hcl.trans g))
            clear hcl hfy hfn hb
            go_wp2_with fail
            go_returns
            exact ⟨by rw [hfin.out]; rfl, rfl⟩
          all_goals
            have hfin := Lib.hid (hfy.out (hcl.trans g))
            clear hcl hfy hfn
            go_wp2_with fail
            refine (hb _).mono ?_
            rintro e w1 ⟨rfl, rfl⟩
            go_wp2_with fail
            go_returns
            exact ⟨by rw [hfin.out, he.out]; rfl, rfl⟩

theorem rhead_any (l : List UInt8) (w : World) (hl : l.length ≤ 140737488355328) :
    Calls Tryd.prog 15 #[.string (bs l)] w fun e w' => e = .returned (headv (Lf.heading l)) ∧ w = w' := by
  have hi := fun w => rindent_any l w hl
  have hle := Cl.lead_le Cl.inf l 0
  have hcl : Fn.cl l = (Cl.lead Cl.inf l 0).1 := rfl
  have hrs : Fn.rs l = l.drop (Cl.lead Cl.inf l 0).2 := rfl
  obtain ⟨C, K, hCK⟩ : ∃ C K, Cl.lead Cl.inf l 0 = (C, K) := ⟨_, _, rfl⟩
  rw [hCK] at hi hle hcl hrs
  simp only at hi hle hcl hrs
  clear hCK
  have hrun := fun w => rrun_any l K 35 w hl (by omega)
  have hrl := Fn.run_le 35 (l.drop K)
  rw [List.length_drop] at hrl
  have hno := @head_no l
  have hye := @head_yes l
  rw [hcl, hrs] at hno hye
  obtain ⟨n, hn⟩ : ∃ n, Fn.run 35 (l.drop K) = n := ⟨_, rfl⟩
  rw [hn] at hrun hrl hno hye
  obtain ⟨X, hX⟩ : ∃ X, (l.drop K).drop n = X := ⟨_, rfl⟩
  rw [hX] at hno hye
  by_cases hC : C ≤ 3
  · by_cases h1 : 1 ≤ n
    · by_cases h2 : n ≤ 6
      · cases hs : Lf.stop X with
        | true => exact rhead_yes l X C K n w (Lib.hid (hye ⟨hC, h1, h2, hs⟩)) hl hi hrun hC h1 h2 (by omega) hX hs
        | false =>
          refine rhead_no l C K n w (Lib.hid (hno (fun h => by rw [hs] at h; cases h.2.2.2))) hl hi hrun (.inr (.inr (.inr ⟨hC, h1, h2, ?_⟩)))
          rcases hXc : X with _ | ⟨b, q⟩
          · rw [hXc] at hs; cases hs
          · rw [hXc] at hs; exact ⟨b, q, hX.trans hXc, hs⟩
      · exact rhead_no l C K n w (Lib.hid (hno (fun h => h2 h.2.2.1))) hl hi hrun (.inr (.inr (.inl ⟨hC, h1, by omega⟩)))
    · exact rhead_no l C K n w (Lib.hid (hno (fun h => h1 h.2.1))) hl hi hrun (.inr (.inl ⟨hC, by omega⟩))
  · exact rhead_no l C K n w (Lib.hid (hno (fun h => hC h.1))) hl hi hrun (.inl (by omega))
end Go.Proofs.YtkhaijcaeoclaaaDoor
