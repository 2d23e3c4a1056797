/- ColsStrips: stripped of some columns, and of some more of what is left where no tab is, a line is stripped of all; what is no blank stays. -/
import Derived.Test.YthjhbckacpnhnaaWClFlat
import Derived.Deep.QuietTactic
import Derived.BigQuiet
namespace Go.Proofs.Ythjhbckacpnhnaa
open Go.RowKit

/-- the last five bits -/
theorem bits_31 (n : Int) : ∃ N : Nat, bits .and .i64 n 31 = (N : Int) ∧ N ≤ 31 := by
  have hle : (BitVec.ofInt 64 n &&& 31#64).toNat ≤ 31 := by rw [BitVec.toNat_and]; exact Nat.and_le_right
  refine ⟨_, ?_, hle⟩
  have : bits .and .i64 n 31 = IntKind.i64.wrap ((BitVec.ofInt 64 n &&& 31#64).toNat : Int) := rfl
  rw [this, IntKind.wrap_i64]
  omega

set_option maxHeartbeats 4000000 in
set_option maxRecDepth 100000 in
theorem strips_any (l0 : List UInt8) (A0 : Option Addr) (c0 : Nat) (n m : Int) (w : World) (h0 : Row w w.heap.size 1 A0 l0.length (bcells l0)) (hc0 : l0.length ≤ c0) (hm0 : c0 ≤ maxLen)
    (_hn : -9223372036854775808 ≤ n ∧ n ≤ 9223372036854775807) (_hm : -9223372036854775808 ≤ m ∧ m ≤ 9223372036854775807) :
    Calls Try.prog 5 #[.slice A0 l0.length c0, .int .i64 n, .int .i64 m] w fun e w' => e = .returned (.bool true) ∧ Below w.heap.size w w' := by
  have hl1 : l0.length ≤ 9223372036854775807 := by unfold maxLen at hm0; omega
  obtain ⟨N, hN, hN31⟩ := bits_31 n
  obtain ⟨M, hM, hM31⟩ := bits_31 m
  go_enter Try.func5, Try.ntmps5
  go_wp2_with fail
  refine (made_any l0 _ _ _ h0 hl1).mono ?_
  rintro e w1 ⟨⟨l, rfl, hl, _⟩, hb1⟩
  replace hb1 := Lib.hid hb1
  clear h0 hc0 hm0
  have hsz := bs_size l
  obtain ⟨i, hi, hilen, hdrop, hii⟩ := Cl.strip_lead l N (by omega)
  clear hii
  have hdone := Cl.strip_done l N (by omega) hN31
  have hgl := Cl.gaps_le l
  have hli := Cl.lead_inf l 0 (by unfold Cl.small; omega)
  have hla := (Cl.lead_le Cl.inf l 0).2.2
  have hRg := Cl.rest_gaps l
  have hRl : (Cl.rest l).length ≤ 30 := by unfold Cl.rest; rw [List.length_drop]; omega
  have hzero : N = 0 → Cl.strip (N : Int) l = l := fun h => Cl.strip_neg l (by omega)
  have hsl := Cl.strip_len (N : Int) l
  rw [hli] at hla
  have c1 := fun w => indent_any l w (by omega)
  have c2 := fun w => strip_any l (N : Int) w (by omega)
  have c3 := fun w => indent_any (Cl.strip (N : Int) l) w (by omega)
  have c4 := fun w => strip_any l 99 w (by omega)
  rw [hli] at c1
  rw [hi] at c3
  obtain ⟨a, ha⟩ : ∃ a, (Cl.lead Cl.inf l 0).1 = a := ⟨_, rfl⟩
  obtain ⟨b, hb⟩ : ∃ b, (Cl.lead Cl.inf (Cl.strip (N : Int) l) 0).1 = b := ⟨_, rfl⟩
  rw [ha] at c1 hla
  rw [hb] at c3 hdone
  obtain ⟨t, ht⟩ : ∃ t, Cl.strip (N : Int) l = t := ⟨_, rfl⟩
  obtain ⟨t99, ht99⟩ : ∃ t99, Cl.strip 99 l = t99 := ⟨_, rfl⟩
  rw [ht] at c2 c3 hdone hilen hdrop hzero hsl
  rw [ht99] at c4 hdone
  have hfromT := run_from (S := t) (i := i) hilen
  have hfromL := run_from (S := l) (i := Cl.gaps l) hgl
  have hR : l.drop (Cl.gaps l) = Cl.rest l := rfl
  rw [hdrop] at hfromT
  rw [hR] at hfromL
  obtain ⟨R, hRR⟩ : ∃ R, Cl.rest l = R := ⟨_, rfl⟩
  obtain ⟨j, hj⟩ : ∃ j, Cl.gaps l = j := ⟨_, rfl⟩
  rw [hRR] at hfromT hfromL hRg hRl
  rw [hj] at hfromL c1 hla hgl
  clear hi hdrop hli ha hb ht ht99 hR hRR hj
  have hszt := bs_size t
  -- what stands behind the loop
  have hXl : (List.replicate a 32 ++ R).length ≤ 200 := by rw [List.length_append, List.length_replicate]; omega
  have hxl : (List.replicate (a - N) 32 ++ R).length ≤ 200 := by rw [List.length_append, List.length_replicate]; omega
  have d1 := fun w => strip_any (List.replicate a 32 ++ R) (N : Int) w (by omega)
  have d2 := fun w => indent_any (List.replicate (a - N) 32 ++ R) w (by omega)
  have d3 := fun w => strip_any (List.replicate (a - N) 32 ++ R) (M : Int) w (by omega)
  have d4 := fun w => strip_any (List.replicate a 32 ++ R) ((N : Int) + (M : Int)) w (by omega)
  have d5 := fun w => width_any (List.replicate a 32 ++ R) w (by omega)
  have hwa : a ≤ Cl.width (List.replicate a 32 ++ R) 0 := by rw [Cl.width_blanks]; have := Cl.width_ge R (0 + a); omega
  rw [Cl.strip_flat _ _ _ hRg] at d1 d3
  rw [show ((N : Int) + (M : Int)) = ((N + M : Nat) : Int) from by omega, Cl.strip_flat _ _ _ hRg, show a - (N + M) = a - N - M from by omega] at d4
  rw [show ((N + M : Nat) : Int) = (N : Int) + (M : Int) from by omega] at d4
  rw [Cl.lead_flat _ _ hRg (by omega)] at d2
  obtain ⟨W, hW⟩ : ∃ W, Cl.width (List.replicate a 32 ++ R) 0 = W := ⟨_, rfl⟩
  rw [hW] at d5 hwa
  obtain ⟨X, hX⟩ : ∃ X, List.replicate a 32 ++ R = X := ⟨_, rfl⟩
  obtain ⟨x, hx⟩ : ∃ x, List.replicate (a - N) 32 ++ R = x := ⟨_, rfl⟩
  obtain ⟨z, hz⟩ : ∃ z, List.replicate (a - N - M) 32 ++ R = z := ⟨_, rfl⟩
  rw [hX] at d1 d4 d5 hXl
  rw [hx] at d1 d2 d3 hxl
  rw [hz] at d3 d4
  have hmx : max ((a : Int) - (N : Int)) 0 = ((a - N : Nat) : Int) := by omega
  have hzz := bs_eq (rfl : z = z)
  have hRR := bs_eq (rfl : R = R)
  replace hX := Lib.hid hX
  clear hRg hx hz hW
  have hways : (((N : Int) == 0) = true ∧ ((bs t).toList == (bs l).toList) = true) ∨ ((N : Int) == 0) = false := by
    by_cases h : N = 0
    · exact .inl ⟨by simp [h], bs_eq (hzero h)⟩
    · exact .inr (by simp [h])
  have hends : (((b : Int) == 0) = true ∧ ((bs t99).toList == (bs t).toList) = true) ∨ (((b : Int) == 0) = false ∧ ((bs t99).toList == (bs t).toList) = false) := by
    by_cases h : b = 0
    · exact .inl ⟨by simp [h], bs_eq (hdone.1 h)⟩
    · exact .inr ⟨by simp [h], bs_ne (fun e => h (hdone.2 e))⟩
  clear hzero hdone
  go_wp2_with fail
  refine (c1 _).mono ?_
  rintro e w2 ⟨rfl, rfl⟩
  go_wp2_with fail
  refine (c2 _).mono ?_
  rintro e w3 ⟨rfl, hb3⟩
  replace hb3 := Lib.hid (ext_trans hb1.out hb3)
  go_wp2_with fail
  refine (c3 _).mono ?_
  rintro e w4 ⟨rfl, rfl⟩
  go_wp2_with fail
  refine (c1 _).mono ?_
  rintro e w4 ⟨rfl, rfl⟩
  have g1 : decide ((i : Int) < 0) = false := by simp
  have g2 : decide ((t.length : Int) < (i : Int)) = false := by simp; omega
  have g3 : decide ((j : Int) < 0) = false := by simp
  have g4 : decide ((l.length : Int) < (j : Int)) = false := by simp; omega
  rcases hways with ⟨hw1, hw2⟩ | hw1
  all_goals
    go_wp2_with fail
    go_quiet (fail)
    go_wp2_with fail
    go_loop [16, 17] (fun v i => ∃ c : Nat, c ≤ a ∧ v = .string (bs (List.replicate c 32)) ∧ i = .int .i64 c) (fun _ i => a - (intOf i).toNat)
    case atStart => exact ⟨0, Nat.zero_le _, rfl, rfl⟩
    case round =>
      obtain ⟨c, hc, rfl, rfl⟩ := hrel
      have hzc : (bs (List.replicate c 32)).size = c := by rw [bs_size, List.length_replicate]
      rcases Nat.lt_or_eq_of_le hc with hlt | rfl
      · have hzo : (bs (List.replicate c 32)).size + ByteArray.size ⟨#[32]⟩ ≤ 9223372036854775807 := by rw [hzc]; show c + 1 ≤ _; omega
        have htb := text_blank c
        go_wp2_with fail
        go_round
        case rel => exact ⟨c + 1, by omega, rfl, by go_num⟩
        case measure => simp [intOf]; omega
      · have hzR := bs_size R
        go_wp2_with fail
        rw [bs_append, hX.out]
        refine (d1 _).mono ?_
        rintro e w5 ⟨rfl, hb5⟩
        replace hb5 := Lib.hid (ext_trans (below_drewN hb3.out _) hb5)
        go_wp2_with fail
        refine (d2 _).mono ?_
        rintro e w6 ⟨rfl, rfl⟩
        go_wp2_with fail
        refine (d3 _).mono ?_
        rintro e w6 ⟨rfl, hb6⟩
        replace hb6 := Lib.hid (ext_trans hb5.out hb6)
        go_wp2_with fail
        refine (d4 _).mono ?_
        rintro e w7 ⟨rfl, hb7⟩
        replace hb7 := Lib.hid (ext_trans hb6.out hb7)
        go_wp2_with fail
        refine (d5 _).mono ?_
        rintro e w8 ⟨rfl, rfl⟩
        have hge : (c : Int) ≤ (W : Int) := by omega
        rcases hends with ⟨he1, he2⟩ | ⟨he1, he2⟩
        all_goals
          go_wp2_with fail
          refine (c4 _).mono ?_
          rintro e w8 ⟨rfl, hb8⟩
          replace hb8 := Lib.hid (ext_trans hb7.out hb8)
          go_wp2_with fail
          refine (known_any _).mono ?_
          rintro e w9 ⟨rfl, hb9⟩
          go_wp2
          go_returns
          exact ⟨by simp, ext_trans hb8.out hb9⟩
end Go.Proofs.Ythjhbckacpnhnaa
