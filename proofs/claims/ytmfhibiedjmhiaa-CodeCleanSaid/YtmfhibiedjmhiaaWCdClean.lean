/- CodeClean: what is put between more signs than it has in a row is a span of it. -/
import Derived.Test.YtmfhibiedjmhiaaCdSame
namespace Go.Proofs.Ytmfhibiedjmhiaa
open Go.RowKit

set_option maxHeartbeats 8000000 in
set_option maxRecDepth 100000 in
theorem clean_law (ks : List UInt8) (A : Option Addr) (c : Nat) (w : World) (h : Row w w.heap.size 1 A ks.length (bcells ks)) (hk : ks.length ≤ 9223372036854775807) :
    Calls Try.prog 6 #[.slice A ks.length c] w fun e w' => e = .returned (.bool true) ∧ Below w.heap.size w w' := by
  have hmk := made_any ks A c w h hk
  have hM := made9_len ks
  obtain ⟨M, hMM⟩ : ∃ M, M = made9 ks := ⟨_, rfl⟩
  rw [← hMM] at hmk hM
  clear hMM h
  have z0 := bs_size M
  obtain ⟨P, hP⟩ : ∃ P, P = [120] ++ M := ⟨_, rfl⟩
  obtain ⟨T, hTT⟩ : ∃ T, T = P ++ [120] := ⟨_, rfl⟩
  have a0 : (⟨#[120]⟩ : ByteArray) ++ bs M = bs P := by rw [hP]; exact bs_append [120] M
  have a1 : bs P ++ (⟨#[120]⟩ : ByteArray) = bs T := by rw [hTT]; exact bs_append P [120]
  have z1 := bs_size P
  have hPl : P.length = M.length + 1 := by rw [hP]; simp
  have hTl : T.length = M.length + 2 := by rw [hTT]; simp [hPl]
  have hT0 : T.getD 0 0 = 120 := by rw [hTT, hP]; simp
  have hT1 : T.getD (T.length - 1) 0 = 120 := by
    rw [hTl, show M.length + 2 - 1 = P.length by omega, hTT]; simp [List.getD]
  have m1 : ¬ 9223372036854775807 < 1 + M.length := by omega
  have m2 : ¬ 9223372036854775807 < P.length + 1 := by omega
  clear hP hTT
  go_enter Try.func6, Try.ntmps6
  go_wp2_with fail
  refine hmk.mono ?_
  rintro e w1 ⟨rfl, hb1⟩
  clear hmk
  go_wp2_with fail
  have hTb : T.length ≤ 26 := by omega
  have hTb2 : 2 ≤ T.length := by omega
  clear a1 a0 z1 z0 m1 m2 hPl hTl
  have hTs := bs_size T
  replace hT0 := Lib.hid hT0
  replace hT1 := Lib.hid hT1
  go_loop [4, 5] (fun v i => ∃ (k : Nat) (D : List UInt8), k ≤ T.length ∧ D.length = k ∧ i = .int .i64 k ∧ v = .string (bs D) ∧ Hid (D = Cd.flat (T.take k))) (fun _ i => T.length - (intOf i).toNat)
  case atStart => exact ⟨0, [], Nat.zero_le _, rfl, rfl, rfl, Lib.hid rfl⟩
  case round =>
    obtain ⟨k, D, hk1, hDk, rfl, rfl, hD⟩ := hrel
    have hDs := bs_size D
    by_cases hp : k < T.length
    · have hix := run_byte hp w1
      have hone := run_one hp w1
      have hf := Cd.flat_take hp
      rw [← hD.out] at hf
      obtain ⟨b, hb⟩ : ∃ b, b = T[k] := ⟨_, rfl⟩
      rw [← hb] at hix hone hf
      clear hb
      have ho1 := bs_size [b]
      simp only [List.length_cons, List.length_nil] at ho1
      by_cases h10 : b = 10
      · have ht : ((b.toNat : Int) == 10) = true := byte_eq (n := 10) (by omega) h10
        have hn : Cd.nl b = 32 := by rw [h10]; rfl
        rw [hn] at hf
        have hcat : bs D ++ (⟨#[32]⟩ : ByteArray) = bs (D ++ [32]) := bs_append D [32]
        replace hf := Lib.hid hf
        clear h10 hn
        go_wp2
        go_round
        case rel => exact ⟨k + 1, D ++ [32], hp, by simp; omega, by go_num, rfl, Lib.hid hf.out.symm⟩
        case measure => simp [intOf]; omega
      · have ht : ((b.toNat : Int) == 10) = false := byte_ne (n := 10) (by omega) h10
        have hn : Cd.nl b = b := by unfold Cd.nl; rw [if_neg h10]
        rw [hn] at hf
        have hcat : bs D ++ bs [b] = bs (D ++ [b]) := bs_append D [b]
        replace hf := Lib.hid hf
        clear h10 hn
        go_wp2
        go_round
        case rel => exact ⟨k + 1, D ++ [b], hp, by simp; omega, by go_num, rfl, Lib.hid hf.out.symm⟩
        case measure => simp [intOf]; omega
    · have hDe : D = Cd.flat T := by rw [hD.out, List.take_of_length_le (by omega)]
      subst hDe
      clear hD
      have h0 : 0 < T.length := by omega
      obtain ⟨s1, s2⟩ := Cd.law_spans (T := T) (by omega) h0 hT0.out hT1.out
      have hlit : (⟨#[96, 96, 96, 96, 96, 96, 96, 96, 96, 96, 96, 96, 96, 96, 96, 96, 96, 96, 96, 96, 96, 96, 96, 96, 96, 96]⟩ : ByteArray) = bs (Cd.tick 26) := by decide +kernel
      obtain ⟨X1, hX1⟩ : ∃ X, X = Cd.tick 26 ++ T := ⟨_, rfl⟩
      obtain ⟨X2, hX2⟩ : ∃ X, X = X1 ++ Cd.tick 26 := ⟨_, rfl⟩
      obtain ⟨Y0, hY0⟩ : ∃ X, X = Cd.tick 26 ++ [32] := ⟨_, rfl⟩
      obtain ⟨Y1, hY1⟩ : ∃ X, X = Y0 ++ T := ⟨_, rfl⟩
      obtain ⟨Y2, hY2⟩ : ∃ X, X = Y1 ++ [32] := ⟨_, rfl⟩
      obtain ⟨Y3, hY3⟩ : ∃ X, X = Y2 ++ Cd.tick 26 := ⟨_, rfl⟩
      obtain ⟨Y4, hY4⟩ : ∃ X, X = Y3 ++ [121] := ⟨_, rfl⟩
      have a1 : (⟨#[96, 96, 96, 96, 96, 96, 96, 96, 96, 96, 96, 96, 96, 96, 96, 96, 96, 96, 96, 96, 96, 96, 96, 96, 96, 96]⟩ : ByteArray) ++ bs T = bs X1 := by rw [hlit, hX1, bs_append]
      have a2 : bs X1 ++ (⟨#[96, 96, 96, 96, 96, 96, 96, 96, 96, 96, 96, 96, 96, 96, 96, 96, 96, 96, 96, 96, 96, 96, 96, 96, 96, 96]⟩ : ByteArray) = bs X2 := by rw [hlit, hX2, bs_append]
      have b0 : (⟨#[96, 96, 96, 96, 96, 96, 96, 96, 96, 96, 96, 96, 96, 96, 96, 96, 96, 96, 96, 96, 96, 96, 96, 96, 96, 96]⟩ : ByteArray) ++ (⟨#[32]⟩ : ByteArray) = bs Y0 := by rw [hlit, hY0, show (⟨#[32]⟩ : ByteArray) = bs [32] from rfl, bs_append]
      have b1 : bs Y0 ++ bs T = bs Y1 := by rw [hY1, bs_append]
      have b2 : bs Y1 ++ (⟨#[32]⟩ : ByteArray) = bs Y2 := by rw [hY2, show (⟨#[32]⟩ : ByteArray) = bs [32] from rfl, bs_append]
      have b3 : bs Y2 ++ (⟨#[96, 96, 96, 96, 96, 96, 96, 96, 96, 96, 96, 96, 96, 96, 96, 96, 96, 96, 96, 96, 96, 96, 96, 96, 96, 96]⟩ : ByteArray) = bs Y3 := by rw [hlit, hY3, bs_append]
      have b4 : bs Y3 ++ (⟨#[121]⟩ : ByteArray) = bs Y4 := by rw [hY4, show (⟨#[121]⟩ : ByteArray) = bs [121] from rfl, bs_append]
      have ht26 : (Cd.tick 26).length = 26 := by decide +kernel
      have l1 : X1.length = T.length + 26 := by rw [hX1, List.length_append, ht26]; omega
      have l2 : X2.length = T.length + 52 := by rw [hX2, List.length_append, ht26]; omega
      have l3 : Y0.length = 27 := by rw [hY0, List.length_append, ht26]; rfl
      have l4 : Y1.length = T.length + 27 := by rw [hY1, List.length_append]; omega
      have l5 : Y2.length = T.length + 28 := by rw [hY2, List.length_append, List.length_cons, List.length_nil]; omega
      have l6 : Y3.length = T.length + 54 := by rw [hY3, List.length_append, ht26]; omega
      have l7 : Y4.length = T.length + 55 := by rw [hY4, List.length_append, List.length_cons, List.length_nil]; omega
      have z1 := bs_size X1
      have z2 := bs_size Y0
      have z3 := bs_size Y1
      have z4 := bs_size Y2
      have z5 := bs_size Y3
      rw [← hX1, ← hX2] at s1
      rw [show Cd.tick 26 ++ (32 :: T ++ [32]) ++ Cd.tick 26 ++ [121] = Y4 by rw [hY4, hY3, hY2, hY1, hY0]; simp] at s2
      have q1 := fun w => cspan_any X2 0 (by omega) w
      have q2 := fun w => cspan_any Y4 0 (by omega) w
      rw [s1] at q1
      rw [s2] at q2
      have hV1 : spanV (some (Cd.flat T, T.length + 52)) = .tuple #[.string (bs (Cd.flat T)), .int .i64 ((T.length + 52 : Nat) : Int), .bool true] := rfl
      have hV2 : spanV (some (Cd.flat T, T.length + 54)) = .tuple #[.string (bs (Cd.flat T)), .int .i64 ((T.length + 54 : Nat) : Int), .bool true] := rfl
      obtain ⟨E1, hE1⟩ : ∃ E, E = T.length + 52 := ⟨_, rfl⟩
      obtain ⟨E2, hE2⟩ : ∃ E, E = T.length + 54 := ⟨_, rfl⟩
      rw [hV1, ← hE1] at q1
      rw [hV2, ← hE2] at q2
      clear hX1 hX2 hY0 hY1 hY2 hY3 hY4 s1 s2 hV1 hV2 hlit ht26 hT0 hT1
      have g1 : ((E1 : Int) == 52 + (T.length : Int)) = true := by simp; omega
      have g2 : ((E2 : Int) == 52 + (T.length : Int) + 2) = true := by simp; omega
      obtain ⟨F, hF⟩ : ∃ F, F = Cd.flat T := ⟨_, rfl⟩
      rw [← hF] at q1 q2 hDk hDs ⊢
      clear hF hE1 hE2
      go_wp2_with fail
      refine (q1 _).mono ?_
      rintro e w2 ⟨rfl, hb2⟩
      replace hb2 := Lib.hid (ext_trans hb1 hb2)
      go_wp2_with fail
      refine (q2 _).mono ?_
      rintro e w3 ⟨rfl, hb3⟩
      replace hb3 := Lib.hid (ext_trans hb2.out hb3)
      go_wp2_with fail
      refine (known_any _).mono ?_
      rintro e w4 ⟨rfl, hb4⟩
      replace hb4 := Lib.hid (ext_trans hb3.out hb4)
      go_wp2
      go_ret
      exact ⟨rfl, hb4.out⟩

theorem clean_said (ks : List UInt8) (A : Option Addr) (c : Nat) (w : World) (h : Row w w.heap.size 1 A ks.length (bcells ks)) (hc : ks.length ≤ c) (hm : c ≤ maxLen) :
    Calls Try.prog 6 #[.slice A ks.length c] w fun e w' => e = .returned (.bool true) ∧ Below w.heap.size w w' :=
  clean_law ks A c w h (by unfold maxLen at hm; omega)
end Go.Proofs.Ytmfhibiedjmhiaa
