/- The document's own code within text: one contract for each function. -/
import Derived.Test.YtjkmhcolnidflaaCdMath
import Derived.Test.YtjkmhcolnidflaaFnRun
namespace Go.Proofs.Ytjkmhcolnidflaa
open Go.RowKit

/-- how many stand from a place on, wherever it is -/
def runV (c : UInt8) (l : List UInt8) (at_ : Int) : Nat := if at_ < 0 then 0 else Fn.run c (l.drop at_.toNat)
theorem runV_at (c : UInt8) (l : List UInt8) (k : Nat) : runV c l (k : Int) = Fn.run c (l.drop k) := by unfold runV; rw [if_neg (by omega)]; rfl

set_option maxHeartbeats 1000000 in
theorem rrun_of (l : List UInt8) (at_ : Int) (c : UInt8) (w : World) (hl : l.length ≤ 140737488355328) (h63 : at_ ≤ 9223372036854775807) :
    Calls Try.prog 34 #[.string (bs l), .int .i64 at_, .int .u8 (c.toNat : Int)] w fun e w' => e = .returned (.int .i64 (runV c l at_ : Nat)) ∧ w = w' := by
  have hsz := bs_size l
  by_cases h0 : at_ < 0
  · have hv : runV c l at_ = 0 := by unfold runV; rw [if_pos h0]
    rw [hv]
    go_enter Try.func34, Try.ntmps34
    go_wp2_with fail
    go_loop [7] (fun u => u = .int .i64 0) (fun _ => 0)
    case atStart => rfl
    case round =>
      subst hrel
      go_wp2
      go_ret
      exact ⟨rfl, rfl⟩
  · obtain ⟨a, rfl⟩ : ∃ a : Nat, at_ = (a : Int) := ⟨at_.toNat, by omega⟩
    rw [runV_at]
    by_cases hle : a ≤ l.length
    · exact rrun_any l a c w hl hle
    · rw [Fn.run_end (by omega)]
      go_enter Try.func34, Try.ntmps34
      go_wp2_with fail
      go_loop [7] (fun u => u = .int .i64 0) (fun _ => 0)
      case atStart => rfl
      case round =>
        subst hrel
        go_wp2
        go_ret
        exact ⟨rfl, rfl⟩

/-- a text from a place to another, the places in the walk's own form -/
theorem run_mid_at {S : List UInt8} {i j : Nat} {v u : Int} (h : i ≤ j) (hj : j ≤ S.length) (hv : v = (i : Int)) (hu : u = (j : Int)) (w : World) :
    (Instr.slice 9 (.string (bs S)) (some (.int .i64 v)) (some (.int .i64 u)) none).run Try.prog w = .ok (.string (bs (mid S i j))) w := by
  subst hv hu; exact run_mid h hj w

set_option maxHeartbeats 4000000 in
set_option maxRecDepth 100000 in
theorem rclean_any (l : List UInt8) (w : World) (hs : l.length ≤ 140737488351232) :
    Calls Try.prog 48 #[.string (bs l)] w fun e w' => e = .returned (.string (bs (Cd.clean l))) ∧ w = w' := by
  have hsz := bs_size l
  obtain ⟨C, hC⟩ : ∃ C, C = Cd.clean l := ⟨_, rfl⟩
  rw [← hC]
  replace hC := Lib.hid hC
  go_enter Try.func48, Try.ntmps48
  go_wp2_with fail
  go_loop [3, 4, 5] (fun v al i => ∃ (k : Nat) (D : List UInt8), k ≤ l.length ∧ D.length = k ∧ i = .int .i64 k ∧ v = .string (bs D) ∧ Hid (D = Cd.flat (l.take k)) ∧ al = .bool (Cd.blanks D)) (fun _ _ i => l.length - (intOf i).toNat)
  case atStart => exact ⟨0, [], Nat.zero_le _, rfl, rfl, rfl, Lib.hid rfl, rfl⟩
  case round =>
    obtain ⟨k, D, hk, hDk, rfl, rfl, hD, rfl⟩ := hrel
    have hDs := bs_size D
    by_cases hp : k < l.length
    · have hix := run_byte hp w
      have hone := run_one hp w
      have hf := Cd.flat_take hp
      rw [← hD.out] at hf
      obtain ⟨b, hb⟩ : ∃ b, b = l[k] := ⟨_, rfl⟩
      rw [← hb] at hix hone hf
      clear hb
      have hb8 := b.toNat_lt
      have ho1 := bs_size [b]
      simp only [List.length_cons, List.length_nil] at ho1
      by_cases h10 : b = 10
      · have ht : ((b.toNat : Int) == 10) = true := byte_eq (n := 10) (by omega) h10
        have hn : Cd.nl b = 32 := by rw [h10]; rfl
        rw [hn] at hf
        have hcat : bs D ++ (⟨#[32]⟩ : ByteArray) = bs (D ++ [32]) := bs_append D [32]
        have hal : Cd.blanks (D ++ [32]) = Cd.blanks D := by simp [Cd.blanks]
        replace hf := Lib.hid hf
        replace hn := Lib.hid hn
        clear h10
        cases hbl : Cd.blanks D with
        | true =>
          rw [hbl] at hal
          go_wp2
          go_round
          case rel => exact ⟨k + 1, D ++ [32], hp, by simp; omega, by go_num, rfl, Lib.hid hf.out.symm, by rw [hal]⟩
          case measure => simp [intOf]; omega
        | false =>
          rw [hbl] at hal
          go_wp2
          go_round
          case rel => exact ⟨k + 1, D ++ [32], hp, by simp; omega, by go_num, rfl, Lib.hid hf.out.symm, by rw [hal]⟩
          case measure => simp [intOf]; omega
      · have ht : ((b.toNat : Int) == 10) = false := byte_ne (n := 10) (by omega) h10
        have hn : Cd.nl b = b := by unfold Cd.nl; rw [if_neg h10]
        rw [hn] at hf
        have hcat : bs D ++ bs [b] = bs (D ++ [b]) := bs_append D [b]
        have hal : Cd.blanks (D ++ [b]) = (Cd.blanks D && b == 32) := by simp [Cd.blanks]
        have heq : ((bs [b]).toList == (⟨#[32]⟩ : ByteArray).toList) = (b == 32) := by
          rw [show (⟨#[32]⟩ : ByteArray) = bs [32] from rfl, bs_toList, bs_toList]; simp
        have heq2 : ((bs [b]).toList == [32]) = (b == 32) := by rw [bs_toList]; simp
        replace hf := Lib.hid hf
        replace hn := Lib.hid hn
        clear h10
        cases hbl : Cd.blanks D with
        | true =>
          rw [hbl] at hal
          go_wp2
          go_round
          case rel => exact ⟨k + 1, D ++ [b], hp, by simp; omega, by go_num, rfl, Lib.hid hf.out.symm, by rw [hal, Bool.true_and]⟩
          case measure => simp [intOf]; omega
        | false =>
          rw [hbl] at hal
          go_wp2
          go_round
          case rel => exact ⟨k + 1, D ++ [b], hp, by simp; omega, by go_num, rfl, Lib.hid hf.out.symm, by rw [hal]; rfl⟩
          case measure => simp [intOf]; omega
    · have hDe : D = Cd.flat l := by rw [hD.out, List.take_of_length_le (by omega)]
      have hcl : C = if Cd.blanks D = false ∧ D.getD 0 0 = 32 ∧ D.getD (D.length - 1) 0 = 32 then mid D 1 (D.length - 1) else D := by rw [hC.out]; unfold Cd.clean; rw [← hDe]
      clear hDe hD
      cases hbl : Cd.blanks D with
      | true =>
        rw [if_neg (by rw [hbl]; simp)] at hcl
        clear hC
        subst hcl
        go_wp2
        go_ret
        exact ⟨rfl, rfl⟩
      | false =>
        have h0 : 0 < D.length := by
          match D, hbl with
          | [], hbl => simp [Cd.blanks] at hbl
          | _ :: _, _ => simp
        have hix0 := run_byte_at h0 (v := 0) rfl w
        have hix1 := run_byte_at (i := k - 1) (v := (k : Int) - 1) (S := D) (by omega) (by omega) w
        have g0 : D.getD 0 0 = D[0] := by simp [List.getD, List.getElem?_eq_getElem h0]
        have g1 : D.getD (k - 1) 0 = D[k - 1] := by simp [List.getD, List.getElem?_eq_getElem (show k - 1 < D.length by omega)]
        rw [hDk, g0, g1] at hcl
        by_cases f0 : D[0] = 32
        · have t0 : ((D[0].toNat : Int) == 32) = true := byte_eq (n := 32) (by omega) f0
          by_cases f1 : D[k - 1] = 32
          · have t1 : ((D[k - 1].toNat : Int) == 32) = true := byte_eq (n := 32) (by omega) f1
            have h2 : 2 ≤ k := by
              rcases Nat.lt_or_ge k 2 with h | h
              · exfalso
                match D, h0, hDk, hbl, f0 with
                | [x], _, _, hbl, f0 => simp at f0; subst f0; simp [Cd.blanks] at hbl
                | _ :: _ :: _, _, hDk, _, _ => simp at hDk; omega
              · exact h
            have hmid := run_mid_at (S := D) (i := 1) (j := k - 1) (v := 1) (u := (k : Int) - 1) (by omega) (by omega) rfl (by omega) w
            rw [if_pos ⟨hbl, f0, f1⟩] at hcl
            clear hC g0 g1 f0 f1
            subst hcl
            go_wp2
            go_ret
            exact ⟨rfl, rfl⟩
          · have t1 : ((D[k - 1].toNat : Int) == 32) = false := byte_ne (n := 32) (by omega) f1
            rw [if_neg (fun h => f1 h.2.2)] at hcl
            clear hC g0 g1 f0 f1
            subst hcl
            go_wp2
            go_ret
            exact ⟨rfl, rfl⟩
        · have t0 : ((D[0].toNat : Int) == 32) = false := byte_ne (n := 32) (by omega) f0
          rw [if_neg (fun h => f0 h.2.1)] at hcl
          clear hC g0 g1 f0
          subst hcl
          go_wp2
          go_ret
          exact ⟨rfl, rfl⟩

/-- what Span answers -/
def spanV : Option (List UInt8 × Nat) → Value
  | none => .tuple #[.string ⟨#[]⟩, .int .i64 0, .bool false]
  | some (t, e) => .tuple #[.string (bs t), .int .i64 (e : Int), .bool true]
theorem opens_no {l : List UInt8} {at_ : Int} (h : at_ < 0 ∨ (l.length : Int) ≤ at_ ∨ (∃ h : at_.toNat < l.length, l[at_.toNat] ≠ 96) ∨ (0 < at_ ∧ ∃ h : at_.toNat - 1 < l.length, l[at_.toNat - 1] = 96)) : Cd.opens l at_ = false := by
  unfold Cd.opens
  refine decide_eq_false ?_
  rintro ⟨h1, h2, h3, h4⟩
  rcases h with h | h | ⟨hl, h⟩ | ⟨h0, hl, h⟩
  · omega
  · omega
  · exact h (by simpa [List.getD, List.getElem?_eq_getElem hl] using h3)
  · rcases h4 with h4 | h4
    · omega
    · exact h4 (by simpa [List.getD, List.getElem?_eq_getElem hl] using h)
theorem opens_yes {l : List UInt8} {k : Nat} (h : k < l.length) (h1 : l[k] = 96) (h2 : k = 0 ∨ ∃ h : k - 1 < l.length, l[k - 1] ≠ 96) : Cd.opens l (k : Int) = true := by
  unfold Cd.opens
  refine decide_eq_true ⟨by omega, h, by simpa [List.getD, List.getElem?_eq_getElem h] using h1, ?_⟩
  rcases h2 with h2 | ⟨hl, h2⟩
  · exact .inl h2
  · exact .inr (by simpa [List.getD, List.getElem?_eq_getElem hl] using h2)

set_option maxHeartbeats 4000000 in
set_option maxRecDepth 100000 in
/-- behind the beginning's own test -/
theorem rspan_on (l : List UInt8) (k : Nat) (hk : k < l.length) (hs : l.length ≤ 140737488351232) (h96 : l[k] = 96) (hb : k = 0 ∨ ∃ h : k - 1 < l.length, l[k - 1] ≠ 96) (w : World) :
    Calls Try.prog 33 #[.string (bs l), .int .i64 (k : Int)] w fun e w' => e = .returned (spanV (Cd.span l (k : Int))) ∧ w = w' := by
  have hsz := bs_size l
  have hix := run_byte hk w
  have ht : ((l[k].toNat : Int) == 96) = true := byte_eq (n := 96) (by omega) h96
  have ht2 : ((l[k].toNat : Int) != 96) = false := by simp only [bne, ht]; rfl
  have ho := opens_yes hk h96 hb
  have hn1 := Cd.opens_run ho
  have hsp := Cd.span_on (n := Fn.run 96 (l.drop k)) ho rfl
  rw [show ((k : Int)).toNat = k from by omega] at hn1 hsp
  obtain ⟨R, hR⟩ : ∃ R, R = Cd.span l (k : Int) := ⟨_, rfl⟩
  rw [← hR] at hsp ⊢
  clear ho h96 hR
  have hnl := Fn.run_le 96 (l.drop k)
  rw [List.length_drop] at hnl
  have q := fun i hi w => rrun_any l i 96 w (by omega) hi
  have q1 := q k (by omega)
  obtain ⟨n, hn⟩ : ∃ n, n = Fn.run 96 (l.drop k) := ⟨_, rfl⟩
  rw [← hn] at hn1 hnl q1 hsp
  clear hn
  replace q := Lib.hid q
  replace hsp := Lib.hid hsp
  have hb' : (k ≤ 0 ∧ Hid True) ∨ (0 < k ∧ ∃ h : k - 1 < l.length, ((l[k - 1].toNat : Int) == 96) = false) := by
    rcases hb with hb | ⟨h, hb⟩
    · exact .inl ⟨by omega, Lib.hid trivial⟩
    · rcases Nat.eq_zero_or_pos k with h0 | h0
      · exact .inl ⟨by omega, Lib.hid trivial⟩
      · exact .inr ⟨h0, h, byte_ne (n := 96) (by omega) hb⟩
  clear hb
  rcases hb' with ⟨hk0, _⟩ | ⟨hk0, hk1, hb1⟩
  · go_enter Try.func33, Try.ntmps33
    go_wp2_with fail
    refine (q1 _).mono ?_
    rintro e w1 ⟨rfl, rfl⟩
    go_wp2_with fail
    go_loop [8] (fun u => ∃ i : Nat, k + n ≤ i ∧ i ≤ l.length ∧ u = .int .i64 i ∧ Hid (Cd.find l n (k + n) = Cd.find l n i)) (fun u => l.length - (intOf u).toNat)
    case atStart => exact ⟨k + n, Nat.le_refl _, by omega, by go_num, Lib.hid rfl⟩
    case round =>
      obtain ⟨i, hi1, hi2, rfl, hf⟩ := hrel
      by_cases hil : i < l.length
      · have q2 := q.out i (by omega)
        have hyes := Cd.find_yes (n := n) hil
        have hno := Cd.find_no (n := n) hil
        have hml := Fn.run_le 96 (l.drop i)
        rw [List.length_drop] at hml
        obtain ⟨m, hm⟩ : ∃ m, m = Fn.run 96 (l.drop i) := ⟨_, rfl⟩
        rw [← hm] at q2 hyes hno hml
        clear hm
        have hmx : (if (m : Int) < 1 then (1 : Int) else (m : Int)) = ((max m 1 : Nat) : Int) := by split <;> omega
        by_cases hmn : m = n
        · subst hmn
          have hres : R = some (Cd.clean (mid l (k + m) i), i + m) := by rw [hsp.out, hf.out, hyes rfl]; rfl
          subst hres
          clear hsp hf hyes hno
          have hcut := run_mid_at (S := l) (i := k + m) (j := i) (v := (k : Int) + m) (u := (i : Int)) hi1 (by omega) (by omega) rfl w
          have hml2 : (mid l (k + m) i).length ≤ 140737488351232 := by rw [mid_len (by omega)]; omega
          have q3 := rclean_any (mid l (k + m) i) w hml2
          go_wp2_with fail
          refine (q2 _).mono ?_
          rintro e w1 ⟨rfl, rfl⟩
          go_wp2_with fail
          refine q3.mono ?_
          rintro e w1 ⟨rfl, rfl⟩
          go_wp2
          go_ret3
          exact ⟨rfl, rfl⟩
        · have hne : ((m : Int) == (n : Int)) = false := by simp; omega
          have hf2 : Hid (Cd.find l n (k + n) = Cd.find l n (i + max m 1)) := Lib.hid (by rw [hf.out, hno hmn])
          have hlm : i + max m 1 ≤ l.length := by omega
          clear hyes hno hmn
          go_wp2_with fail
          refine (q2 _).mono ?_
          rintro e w1 ⟨rfl, rfl⟩
          go_wp2_with fail
          go_round
          case rel => exact ⟨i + max m 1, by omega, hlm, by go_num, hf2⟩
          case measure => simp [intOf]; omega
      · have hres : R = none := by rw [hsp.out, hf.out, Cd.find_end (by omega)]; rfl
        subst hres
        clear hsp hf
        go_wp2
        go_ret3
        exact ⟨rfl, rfl⟩
  · have hix1 := run_byte_at (i := k - 1) (v := (k : Int) - 1) (S := l) hk1 (by omega) w
    go_enter Try.func33, Try.ntmps33
    go_wp2_with fail
    refine (q1 _).mono ?_
    rintro e w1 ⟨rfl, rfl⟩
    go_wp2_with fail
    go_loop [8] (fun u => ∃ i : Nat, k + n ≤ i ∧ i ≤ l.length ∧ u = .int .i64 i ∧ Hid (Cd.find l n (k + n) = Cd.find l n i)) (fun u => l.length - (intOf u).toNat)
    case atStart => exact ⟨k + n, Nat.le_refl _, by omega, by go_num, Lib.hid rfl⟩
    case round =>
      obtain ⟨i, hi1, hi2, rfl, hf⟩ := hrel
      by_cases hil : i < l.length
      · have q2 := q.out i (by omega)
        have hyes := Cd.find_yes (n := n) hil
        have hno := Cd.find_no (n := n) hil
        have hml := Fn.run_le 96 (l.drop i)
        rw [List.length_drop] at hml
        obtain ⟨m, hm⟩ : ∃ m, m = Fn.run 96 (l.drop i) := ⟨_, rfl⟩
        rw [← hm] at q2 hyes hno hml
        clear hm
        have hmx : (if (m : Int) < 1 then (1 : Int) else (m : Int)) = ((max m 1 : Nat) : Int) := by split <;> omega
        by_cases hmn : m = n
        · subst hmn
          have hres : R = some (Cd.clean (mid l (k + m) i), i + m) := by rw [hsp.out, hf.out, hyes rfl]; rfl
          subst hres
          clear hsp hf hyes hno
          have hcut := run_mid_at (S := l) (i := k + m) (j := i) (v := (k : Int) + m) (u := (i : Int)) hi1 (by omega) (by omega) rfl w
          have hml2 : (mid l (k + m) i).length ≤ 140737488351232 := by rw [mid_len (by omega)]; omega
          have q3 := rclean_any (mid l (k + m) i) w hml2
          go_wp2_with fail
          refine (q2 _).mono ?_
          rintro e w1 ⟨rfl, rfl⟩
          go_wp2_with fail
          refine q3.mono ?_
          rintro e w1 ⟨rfl, rfl⟩
          go_wp2
          go_ret3
          exact ⟨rfl, rfl⟩
        · have hne : ((m : Int) == (n : Int)) = false := by simp; omega
          have hf2 : Hid (Cd.find l n (k + n) = Cd.find l n (i + max m 1)) := Lib.hid (by rw [hf.out, hno hmn])
          have hlm : i + max m 1 ≤ l.length := by omega
          clear hyes hno hmn
          go_wp2_with fail
          refine (q2 _).mono ?_
          rintro e w1 ⟨rfl, rfl⟩
          go_wp2_with fail
          go_round
          case rel => exact ⟨i + max m 1, by omega, hlm, by go_num, hf2⟩
          case measure => simp [intOf]; omega
      · have hres : R = none := by rw [hsp.out, hf.out, Cd.find_end (by omega)]; rfl
        subst hres
        clear hsp hf
        go_wp2
        go_ret3
        exact ⟨rfl, rfl⟩

set_option maxHeartbeats 4000000 in
set_option maxRecDepth 100000 in
theorem rspan_off (l : List UInt8) (at_ : Int) (hs : l.length ≤ 140737488351232) (ho : at_ < 0 ∨ (0 ≤ at_ ∧ (l.length : Int) ≤ at_) ∨ (0 ≤ at_ ∧ ∃ h : at_.toNat < l.length, ((l[at_.toNat].toNat : Int) == 96) = false) ∨
      (0 < at_ ∧ ∃ h : at_.toNat < l.length, ((l[at_.toNat].toNat : Int) == 96) = true ∧ ((l[at_.toNat - 1].toNat : Int) == 96) = true)) (w : World) :
    Calls Try.prog 33 #[.string (bs l), .int .i64 at_] w fun e w' => e = .returned (spanV none) ∧ w = w' := by
  have hsz := bs_size l
  rcases ho with h | ⟨h0, h⟩ | ⟨h0, hl, h⟩ | ⟨h0, hl, h1, h2⟩
  · go_enter Try.func33, Try.ntmps33
    go_wp2
    go_ret3
    exact ⟨rfl, rfl⟩
  · go_enter Try.func33, Try.ntmps33
    go_wp2
    go_ret3
    exact ⟨rfl, rfl⟩
  · have hix := run_byte_at (i := at_.toNat) (v := at_) (S := l) hl (by omega) w
    have h' : ((l[at_.toNat].toNat : Int) != 96) = true := by simp only [bne, h]; rfl
    go_enter Try.func33, Try.ntmps33
    go_wp2
    go_ret3
    exact ⟨rfl, rfl⟩
  · have hix := run_byte_at (i := at_.toNat) (v := at_) (S := l) hl (by omega) w
    have hix1 := run_byte_at (i := at_.toNat - 1) (v := at_ - 1) (S := l) (by omega) (by omega) w
    have h' : ((l[at_.toNat].toNat : Int) != 96) = false := by simp only [bne, h1]; rfl
    go_enter Try.func33, Try.ntmps33
    go_wp2
    go_ret3
    exact ⟨rfl, rfl⟩

theorem rspan_any (l : List UInt8) (at_ : Int) (hs : l.length ≤ 140737488351232) (w : World) :
    Calls Try.prog 33 #[.string (bs l), .int .i64 at_] w fun e w' => e = .returned (spanV (Cd.span l at_)) ∧ w = w' := by
  by_cases h0 : at_ < 0
  · rw [Cd.span_off (opens_no (.inl h0))]
    exact rspan_off l at_ hs (.inl h0) w
  · by_cases h1 : (l.length : Int) ≤ at_
    · rw [Cd.span_off (opens_no (.inr (.inl h1)))]
      exact rspan_off l at_ hs (.inr (.inl ⟨by omega, h1⟩)) w
    · have hl : at_.toNat < l.length := by omega
      by_cases h2 : l[at_.toNat] = 96
      · by_cases h3 : 0 < at_ ∧ l[at_.toNat - 1] = 96
        · rw [Cd.span_off (opens_no (.inr (.inr (.inr ⟨h3.1, by omega, h3.2⟩))))]
          exact rspan_off l at_ hs (.inr (.inr (.inr ⟨h3.1, hl, byte_eq (n := 96) (by omega) h2, byte_eq (n := 96) (by omega) h3.2⟩))) w
        · obtain ⟨k, rfl⟩ : ∃ k : Nat, at_ = (k : Int) := ⟨at_.toNat, by omega⟩
          refine rspan_on l k hl hs h2 ?_ w
          rcases Nat.eq_zero_or_pos k with hk | hk
          · exact .inl hk
          · exact .inr ⟨by omega, fun h => h3 ⟨by omega, h⟩⟩
      · rw [Cd.span_off (opens_no (.inr (.inr (.inl ⟨hl, h2⟩))))]
        exact rspan_off l at_ hs (.inr (.inr (.inl ⟨by omega, hl, byte_ne (n := 96) (by omega) h2⟩))) w
end Go.Proofs.Ytjkmhcolnidflaa
