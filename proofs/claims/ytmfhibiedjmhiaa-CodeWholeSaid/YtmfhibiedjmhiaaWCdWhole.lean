/- CodeWhole: a span begins and ends with as many signs, and has no such row within. -/
import Derived.Test.YtmfhibiedjmhiaaCdSame
import Derived.Test.YtmfhibiedjmhiaaBit64
namespace Go.Proofs.Ytmfhibiedjmhiaa
open Go.RowKit

set_option maxHeartbeats 8000000 in
set_option maxRecDepth 100000 in
theorem whole_any (ks : List UInt8) (A : Option Addr) (c : Nat) (at_ : Int) (w : World) (h : Row w w.heap.size 1 A ks.length (bcells ks)) (hk : ks.length ≤ 9223372036854775807) :
    Calls Try.prog 5 #[.slice A ks.length c, .int .i64 at_] w fun e w' => e = .returned (.bool true) ∧ Below w.heap.size w w' := by
  obtain ⟨m, hm, gm⟩ : ∃ m : Nat, bits .and .i64 at_ 31 = (m : Int) ∧ m ≤ 31 := ⟨(at_ % 32).toNat, by rw [i64_and31]; omega, by omega⟩
  have hmk := made_any ks A c w h hk
  have hT := made9_len ks
  obtain ⟨T, hTT⟩ : ∃ T, T = made9 ks := ⟨_, rfl⟩
  rw [← hTT] at hmk hT
  clear hTT h
  have hTs := bs_size T
  have q1 := fun w => cspan_any T (m : Int) (by omega) w
  have qr := fun a h w => rrun_of T a 96 w (by omega) h
  go_enter Try.func5, Try.ntmps5
  go_wp2_with fail
  refine hmk.mono ?_
  rintro e w1 ⟨rfl, hb1⟩
  clear hmk
  cases hsp : Cd.span T (m : Int) with
  | none =>
    rw [hsp] at q1
    have hV : spanV none = .tuple #[.string ⟨#[]⟩, .int .i64 0, .bool false] := rfl
    rw [hV] at q1
    go_wp2_with fail
    refine (q1 _).mono ?_
    rintro e w2 ⟨rfl, hb2⟩
    replace hb2 := Lib.hid (ext_trans hb1 hb2)
    go_wp2_with fail
    refine (known_any _).mono ?_
    rintro e w3 ⟨rfl, hb3⟩
    replace hb3 := Lib.hid (ext_trans hb2.out hb3)
    go_wp2
    go_ret
    exact ⟨rfl, hb3.out⟩
  | some r =>
    obtain ⟨t, e⟩ := r
    obtain ⟨g1, g2, g3, g4, g5, g6, _⟩ := Cd.span_spec hsp
    rw [hsp] at q1
    have hV : spanV (some (t, e)) = .tuple #[.string (bs t), .int .i64 (e : Int), .bool true] := rfl
    rw [hV] at q1
    rw [show ((m : Int)).toNat = m by omega] at g1 g3 g4 g5 g6
    have qn := qr (m : Int) (by omega)
    rw [runV_at] at qn
    obtain ⟨n, hn⟩ : ∃ n, n = Fn.run 96 (T.drop m) := ⟨_, rfl⟩
    rw [← hn] at g1 g3 g4 g5 g6 qn
    clear hn hsp hV
    have qe := qr ((e : Int) - (n : Int)) (by omega)
    rw [show ((e : Int) - (n : Int)) = ((e - n : Nat) : Int) by omega, runV_at, g4, show ((e - n : Nat) : Int) = ((e : Int) - (n : Int)) by omega] at qe
    have hlt : e - n - 1 < T.length := by omega
    have hix : ∀ w : World, (Instr.index 9 (.string (bs T)) (.int .i64 ((e : Int) - (n : Int) - 1))).run Try.prog w = .ok (.int .u8 (T[e - n - 1].toNat : Int)) w := fun w => run_byte_at hlt (by omega) w
    have hne : ((T[e - n - 1].toNat : Int) == 96) = false := byte_ne (n := 96) (by omega) (by simpa [List.getD, List.getElem?_eq_getElem hlt] using g5)
    replace g6 := Lib.hid g6
    clear g4 g5
    have f1 : ((n : Int) == 0) = false := by simp; omega
    have f2 : decide (T.length < e) = false := decide_eq_false (by omega)
    have f3 : ¬ ((e : Int) < (m : Int) + 2 * (n : Int) + 1) := by omega
    replace qr := Lib.hid qr
    go_wp2_with fail
    refine (q1 _).mono ?_
    rintro e' w2 ⟨rfl, hb2⟩
    replace hb2 := Lib.hid (ext_trans hb1 hb2)
    clear q1
    go_wp2_with fail
    refine (qn _).mono ?_
    rintro e' w3 ⟨rfl, rfl⟩
    go_wp2_with fail
    refine (qe _).mono ?_
    rintro e' w3 ⟨rfl, rfl⟩
    clear qn qe
    go_wp2_with fail
    go_loop [11] (fun i => ∃ j : Nat, m + n ≤ j ∧ j ≤ e - n ∧ i = .int .i64 j) (fun i => T.length - (intOf i).toNat)
    case atStart => exact ⟨m + n, Nat.le_refl _, by omega, by go_num⟩
    case round =>
      obtain ⟨j, hj1, hj2, rfl⟩ := hrel
      rcases Nat.lt_or_eq_of_le hj2 with hj | rfl
      · have hjl : j - 1 < T.length := by omega
        have hix2 := run_byte_at (i := j - 1) (v := (j : Int) - 1) hjl (by omega) w2
        clear hix hne
        by_cases hb : T[j - 1] = 96
        · have ht0 : ((T[j - 1].toNat : Int) == 96) = true := byte_eq (n := 96) (by omega) hb
          have ht : ((T[j - 1].toNat : Int) != 96) = false := by simp only [bne, ht0]; rfl
          clear hb
          go_wp2_with fail
          go_round
          case rel => exact ⟨j + 1, by omega, by omega, by go_num⟩
          case measure => simp [intOf]; omega
        · have ht0 : ((T[j - 1].toNat : Int) == 96) = false := byte_ne (n := 96) (by omega) hb
          have ht : ((T[j - 1].toNat : Int) != 96) = true := by simp only [bne, ht0]; rfl
          have hr := g6.out j hj1 hj (by simpa [List.getD, List.getElem?_eq_getElem hjl] using hb)
          have qj := qr.out (j : Int) (by omega) w2
          rw [runV_at] at qj
          obtain ⟨r, hr'⟩ : ∃ r, r = Fn.run 96 (T.drop j) := ⟨_, rfl⟩
          rw [← hr'] at hr qj
          clear hr' hb
          have hrn : ((r : Int) == (n : Int)) = false := by simp; omega
          go_wp2_with fail
          refine qj.mono ?_
          rintro e' w3 ⟨rfl, rfl⟩
          go_wp2_with fail
          go_round
          case rel => exact ⟨j + 1, by omega, by omega, by go_num⟩
          case measure => simp [intOf]; omega
      · clear hix hne
        go_wp2_with fail
        refine (known_any _).mono ?_
        rintro e' w3 ⟨rfl, hb3⟩
        replace hb3 := Lib.hid (ext_trans hb2.out hb3)
        go_wp2
        go_ret
        exact ⟨rfl, hb3.out⟩

theorem whole_said (ks : List UInt8) (A : Option Addr) (c : Nat) (at_ : Int) (w : World) (h : Row w w.heap.size 1 A ks.length (bcells ks)) (hc : ks.length ≤ c) (hm : c ≤ maxLen) (_hx : -9223372036854775808 ≤ at_ ∧ at_ ≤ 9223372036854775807) :
    Calls Try.prog 5 #[.slice A ks.length c, .int .i64 at_] w fun e w' => e = .returned (.bool true) ∧ Below w.heap.size w w' :=
  whole_any ks A c at_ w h (by unfold maxLen at hm; omega)
end Go.Proofs.Ytmfhibiedjmhiaa
