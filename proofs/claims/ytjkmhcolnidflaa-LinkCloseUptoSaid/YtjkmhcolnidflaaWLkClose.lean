/- LinkClose: where a bracket closes, one stands, and it is not escaped. -/
import Derived.Test.YtjkmhcolnidflaaLkSame
import Derived.Test.YtjkmhcolnidflaaLkMade
import Derived.Test.YtjkmhcolnidflaaLkShut
namespace Go.Proofs.Ytjkmhcolnidflaa
open Go.RowKit

theorem lkc_text_cell {ls : List (List UInt8)} {w : World} {B : Nat} {A : Option Addr} (h : Row w B 1 A ls.length (scells ls)) {k : Nat} (hk : k < ls.length) :
    ∃ b o, A = some ⟨b, o, none⟩ ∧ b < B ∧ w.cell? ⟨b, o + k, none⟩ = some (.string (bs ls[k])) := by
  obtain ⟨b, o, e, hb, hc⟩ := h.at1 (by omega)
  exact ⟨b, o, e, hb, by rw [hc k hk]; simp [scells]⟩
theorem lkc_row_new (w : World) (E : TypeId) (C : Array Value) {n size : Nat} {xs : List Value} (hn : xs.length = n * size) (hx : C.toList = xs) :
    Row (w.alloc (.cells C E)) (w.alloc (.cells C E)).heap.size size (some ⟨w.heap.size, 0, none⟩) n xs := by
  subst hx
  refine ⟨hn, fun _ => ⟨w.heap.size, 0, rfl, by simp, fun j u hu => ?_⟩⟩
  have := cells_new w C E rfl j u hu
  rwa [show (⟨w.heap.size, 0, none⟩ : Addr).add j = ⟨w.heap.size, 0 + j, none⟩ from by unfold Addr.add; split <;> simp_all] at this

set_option maxHeartbeats 4000000 in
set_option maxRecDepth 100000 in
theorem lkcode_any (l : List UInt8) (hs : l.length ≤ 1000000000) (w : World) :
    Calls Try.prog 12 #[.string (bs l)] w fun e w' => e = .returned (.bool (Lk.marks l)) ∧ w = w' := by
  have hsz := bs_size l
  obtain ⟨R, hR⟩ : ∃ R, R = Lk.marks l := ⟨_, rfl⟩
  rw [← hR]
  replace hR := Lib.hid hR
  go_enter Try.func12, Try.ntmps12
  go_wp2_with fail
  go_loop [3] (fun u => ∃ i : Nat, i ≤ l.length ∧ u = .int .i64 (i : Int) ∧ Hid (Lk.marks (l.take i) = false)) (fun u => l.length - (intOf u).toNat)
  case atStart => exact ⟨0, by omega, rfl, Lib.hid rfl⟩
  case round =>
    obtain ⟨i, hi, rfl, hm⟩ := hrel
    by_cases hil : i < l.length
    · have hx := run_byte hil w
      have hst : Lk.marks (l.take (i + 1)) = (Lk.marks (l.take i) || (l[i] == 96 || l[i] == 60)) := by
        unfold Lk.marks; rw [List.take_succ_eq_append_getElem hil, List.any_append]; simp
      have hin : Hid (l[i] = 96 ∨ l[i] = 60 → R = true) := Lib.hid (fun h => by
        rw [hR.out]; unfold Lk.marks
        rw [List.any_eq_true]
        exact ⟨l[i], List.getElem_mem hil, by simpa using h⟩)
      rw [hm.out, Bool.false_or] at hst
      by_cases h1 : l[i] = 96
      · have t1 : ((l[i].toNat : Int) == 96) = true := byte_eq (n := 96) (by omega) h1
        have hr := hin.out (.inl h1)
        subst hr
        clear hst h1 hR hin
        go_wp2
        go_ret
        exact ⟨rfl, rfl⟩
      · have t1 : ((l[i].toNat : Int) == 96) = false := byte_ne (n := 96) (by omega) h1
        by_cases h2 : l[i] = 60
        · have t2 : ((l[i].toNat : Int) == 60) = true := byte_eq (n := 60) (by omega) h2
          have hr := hin.out (.inr h2)
          subst hr
          clear hst h1 h2 hR hin
          go_wp2
          go_ret
          exact ⟨rfl, rfl⟩
        · have t2 : ((l[i].toNat : Int) == 60) = false := byte_ne (n := 60) (by omega) h2
          have hst2 : Hid (Lk.marks (l.take (i + 1)) = false) := Lib.hid (by rw [hst]; simp [h1, h2])
          clear hst h1 h2 hin
          go_wp2
          go_round
          case rel => exact ⟨i + 1, hil, by go_num, hst2⟩
          case measure => simp [intOf]; omega
    · have hr : R = false := by rw [hR.out, ← hm.out, List.take_of_length_le (by omega)]
      subst hr
      clear hR hm
      go_wp2
      go_ret
      exact ⟨rfl, rfl⟩

set_option maxHeartbeats 2000000 in
set_option maxRecDepth 100000 in
theorem lkclose_any (l : List UInt8) (ks : List UInt8) (A : Option Addr) (c : Nat) (w : World)
    (h : Row w w.heap.size 1 A ks.length (bcells ks)) (hl : l.length ≤ 500000000) (hk : ks.length ≤ 9223372036854775807) :
    Calls Try.prog 5 #[.string (bs l), .slice A ks.length c] w fun e w' => e = .returned (.bool true) ∧ Below w.heap.size w w' := by
  have hR := Lib.hid h
  have hmk := Lib.hid (fun w h => made_fn ks A c w h hk)
  have ht3 := md_all ks
  obtain ⟨M, hMM⟩ : ∃ T, T = md 24 ks := ⟨_, rfl⟩
  rw [← hMM] at hmk ht3
  clear hMM h
  obtain ⟨L1, hL1⟩ : ∃ T : List UInt8, T = 91 :: l := ⟨_, rfl⟩
  obtain ⟨M1, hM1⟩ : ∃ T : List UInt8, T = 91 :: M := ⟨_, rfl⟩
  obtain ⟨M2, hM2⟩ : ∃ T : List UInt8, T = 91 :: (M ++ [93]) := ⟨_, rfl⟩
  have e0 : (⟨#[91]⟩ : ByteArray) ++ bs l = bs L1 := by rw [hL1]; exact bs_append [91] l
  have e1 : (⟨#[91]⟩ : ByteArray) ++ bs M = bs M1 := by rw [hM1]; exact bs_append [91] M
  have e2 : bs M1 ++ (⟨#[93]⟩ : ByteArray) = bs M2 := by rw [hM2, hM1]; exact bs_append (91 :: M) [93]
  have l0 : L1.length = l.length + 1 := by rw [hL1]; simp
  have l1 : M1.length = M.length + 1 := by rw [hM1]; simp
  have l2 : M2.length = M.length + 2 := by rw [hM2]; simp
  have z0 := bs_size l
  have z2 := bs_size M
  have z3 := bs_size M1
  have hfst : ∀ x ∈ [L1, M1, M2], x.getD 0 0 = 91 ∧ 1 ≤ x.length ∧ x.length ≤ 600000000 := by
    intro x hx
    simp only [List.mem_cons, List.not_mem_nil, or_false] at hx
    rcases hx with rfl | rfl | rfl
    · exact ⟨by rw [hL1]; rfl, by omega, by omega⟩
    · exact ⟨by rw [hM1]; rfl, by omega, by omega⟩
    · exact ⟨by rw [hM2]; rfl, by omega, by omega⟩
  clear hL1 hM1 hM2
  replace hfst := Lib.hid hfst
  go_enter Try.func5, Try.ntmps5
  go_wp2_with fail
  refine (hmk.out _ hR.out).mono ?_
  rintro e w1 ⟨rfl, hb1⟩
  replace hb1 := Lib.hid hb1
  go_wp2_with fail
  refine (hmk.out _ (hR.out.ext hb1.out)).mono ?_
  rintro e w2 ⟨rfl, hb2⟩
  replace hb2 := Lib.hid (ext_trans hb1.out hb2)
  go_wp2_with fail
  generalize hw4 : World.alloc w2 _ = w4
  have hS := Lib.hid (show Row w4 w4.heap.size 1 (some ⟨w2.heap.size, 0, none⟩) 3 (scells [L1, M1, M2]) from by rw [← hw4]; exact lkc_row_new w2 9 _ (by rfl) (by rfl))
  have hb4 := Lib.hid (ext_trans hb2.out (show Below w2.heap.size w2 w4 from by rw [← hw4]; exact ext_alloc _ _))
  generalize w2.heap.size = gs at hS ⊢
  clear hw4 hb2 hb1
  obtain ⟨Ts, hTs⟩ : ∃ Ts, Ts = [L1, M1, M2] := ⟨_, rfl⟩
  have hTl : Ts.length = 3 := by rw [hTs]; rfl
  rw [← hTs] at hS hfst
  clear hTs e0 e1 e2
  go_loopw [22] (fun v wz => ∃ m : Nat, m ≤ 3 ∧ v = .int .i64 (m : Int) ∧ Hid (Below w4.heap.size w4 wz)) (fun v _ => 3 - (intOf v).toNat)
  case atStart => exact ⟨0, by omega, rfl, Lib.hid (Below.refl _ _)⟩
  case round =>
    obtain ⟨m, hm, rfl, hz⟩ := hrel
    by_cases hml : m < 3
    · have hml2 : m < Ts.length := by omega
      obtain ⟨b, o, hAe, hbb, hc⟩ := lkc_text_cell (ls := Ts) (by rw [hTl]; exact hS.out) hml2
      injection hAe with hAe; injection hAe with e1 e2 _
      subst e1 e2
      have hcz := (hz.out.cell (p := ⟨gs, 0 + m, none⟩) hbb).trans hc
      rw [Nat.zero_add] at hcz
      obtain ⟨f1, f2, f3⟩ := hfst.out Ts[m] (List.getElem_mem hml2)
      obtain ⟨D, hD⟩ : ∃ D, D = Ts[m]'hml2 := ⟨_, rfl⟩
      rw [← hD] at hcz f1 f2 f3
      clear hD hc
      have zD := bs_size D
      have p := fun w => pclose_any D 0 (by omega) w
      cases hcl : Lk.close D 0 with
      | none =>
        rw [hcl, show placeV none = .tuple #[.int .i64 0, .bool false] from rfl] at p
        clear hcl f1
        go_wp2_with fail
        refine (p _).mono ?_
        rintro e w6 ⟨rfl, hb6⟩
        replace hb6 := Lib.hid (ext_trans hz.out hb6)
        go_wp2_with fail
        go_roundw
        case rel => exact ⟨m + 1, by omega, by go_num, hb6⟩
        case measure => simp [intOf]; omega
      | some k =>
        rw [hcl, show placeV (some k) = .tuple #[.int .i64 (k : Int), .bool true] from rfl] at p
        obtain ⟨k1, hkD, hk93⟩ := Lk.close_is hcl
        have hodd := Lib.hid (fun h => Lk.close_odd f1 hcl h)
        have hbl := Lk.back_le D k
        have hxk := fun w => run_byte hkD w
        have t93 : ((D[k].toNat : Int) == 93) = true := byte_eq (n := 93) (by omega) hk93
        have t93' : ((D[k].toNat : Int) != 93) = false := by simp only [bne, t93]; rfl
        have hat := Lib.hid (Lk.back_at D k)
        have hsp := Lib.hid (Lk.back_stop D k)
        have hcut := fun w => run_upto (S := D) (i := k) (by omega) w
        have hcd := fun w => lkcode_any (D.take k) (by rw [List.length_take]; omega) w
        obtain ⟨B, hB⟩ : ∃ B, B = Lk.back D k := ⟨_, rfl⟩
        rw [← hB] at hodd hbl hat hsp
        obtain ⟨mk, hmkk⟩ : ∃ mk, mk = Lk.marks (D.take k) := ⟨_, rfl⟩
        rw [← hmkk] at hodd hcd
        clear hcl hk93 hB hmkk f1
        go_wp2_with fail
        refine (p _).mono ?_
        rintro e w6 ⟨rfl, hb6⟩
        replace hb6 := Lib.hid (ext_trans hz.out hb6)
        have hxk6 := hxk w6
        go_wp2_with fail
        go_loop [9, 10] (fun nv iv => ∃ n : Nat, n ≤ B ∧ nv = .int .i64 (n : Int) ∧ iv = .int .i64 ((k : Int) - 1 - n)) (fun nv _ => B - (intOf nv).toNat)
        case atStart => exact ⟨0, by omega, rfl, by go_num⟩
        case round =>
          obtain ⟨n, hn, rfl, rfl⟩ := hrel
          rcases Nat.lt_or_eq_of_le hn with hlt | hne
          · have h92 := hat.out (k - 1 - n) (by omega) (by omega)
            rw [Lk.getD_at (by omega)] at h92
            have hx := run_byte_at (S := D) (i := k - 1 - n) (v := (k : Int) - 1 - n) (by omega) (by omega) w6
            have t92 : (((D[k - 1 - n]'(by omega)).toNat : Int) == 92) = true := byte_eq (n := 92) (by omega) h92
            clear h92
            go_wp2_with fail
            go_round
            case rel => exact ⟨n + 1, by omega, by go_num, by first | go_num | (congr 1; omega)⟩
            case measure => simp [intOf]; omega
          · have hcut6 := hcut w6
            have hfin : ∀ b : Bool, ((B % 2 == 1) && !mk) = b → b = false := by
              intro b hb
              subst hb
              cases hmm : mk with
              | true => simp
              | false => have := hodd.out hmm; simp [this]
            have hstop : k ≤ n ∨ (n < k ∧ ∃ hq : k - 1 - n < D.length, (((D[k - 1 - n]'hq).toNat : Int) == 92) = false) := by
              by_cases hkn : k = n
              · exact .inl (by omega)
              · have h1 := hsp.out (by omega)
                rw [← hne, show k - n - 1 = k - 1 - n by omega, Lk.getD_at (by omega)] at h1
                exact .inr ⟨by omega, by omega, byte_ne (n := 92) (by omega) h1⟩
            have hpar : (n % 2 = 1 → mk = true) := fun h => by
              have := hodd.out
              cases hmm : mk with
              | true => rfl
              | false => have := this hmm; omega
            clear hfin hodd hat hsp hne
            have hcase : (n % 2 = 0 ∧ Hid True) ∨ (n % 2 = 1 ∧ mk = true) := by
              rcases Nat.mod_two_eq_zero_or_one n with h | h
              · exact .inl ⟨h, Lib.hid trivial⟩
              · exact .inr ⟨h, hpar h⟩
            clear hpar
            rcases hstop with hkn | ⟨hkn, hq, t92⟩
            · rcases hcase with ⟨hp, _⟩ | ⟨hp, rfl⟩
              · have r1 : (((n : Nat) : Int) % 2 == 1) = false := by simp; omega
                have r2 : ((((n : Nat) : Int).tmod 2) == 1) = false := by rw [Int.tmod_eq_emod_of_nonneg (by omega)]; exact r1
                go_wp2_with fail
                go_roundw
                case rel => exact ⟨m + 1, by omega, by go_num, hb6⟩
                case measure => simp [intOf]; omega
              · have r1 : (((n : Nat) : Int) % 2 == 1) = true := by simp; omega
                have r2 : ((((n : Nat) : Int).tmod 2) == 1) = true := by rw [Int.tmod_eq_emod_of_nonneg (by omega)]; exact r1
                go_wp2_with fail
                refine (hcd _).mono ?_
                rintro e w7 ⟨rfl, rfl⟩
                go_wp2_with fail
                go_roundw
                case rel => exact ⟨m + 1, by omega, by go_num, hb6⟩
                case measure => simp [intOf]; omega
            · have hx := run_byte_at (S := D) (i := k - 1 - n) (v := (k : Int) - 1 - n) hq (by omega) w6
              rcases hcase with ⟨hp, _⟩ | ⟨hp, rfl⟩
              · have r1 : (((n : Nat) : Int) % 2 == 1) = false := by simp; omega
                have r2 : ((((n : Nat) : Int).tmod 2) == 1) = false := by rw [Int.tmod_eq_emod_of_nonneg (by omega)]; exact r1
                go_wp2_with fail
                go_roundw
                case rel => exact ⟨m + 1, by omega, by go_num, hb6⟩
                case measure => simp [intOf]; omega
              · have r1 : (((n : Nat) : Int) % 2 == 1) = true := by simp; omega
                have r2 : ((((n : Nat) : Int).tmod 2) == 1) = true := by rw [Int.tmod_eq_emod_of_nonneg (by omega)]; exact r1
                go_wp2_with fail
                refine (hcd _).mono ?_
                rintro e w7 ⟨rfl, rfl⟩
                go_wp2_with fail
                go_roundw
                case rel => exact ⟨m + 1, by omega, by go_num, hb6⟩
                case measure => simp [intOf]; omega
    · have hyy := Lib.hid (ext_trans hb4.out hz.out)
      go_wp2_with fail
      refine (lkknown_any _).mono ?_
      rintro e w7 ⟨rfl, hb7⟩
      replace hb7 := Lib.hid (ext_trans hyy.out hb7)
      go_wp2_with fail
      go_ret
      exact ⟨rfl, hb7.out⟩

theorem lkclose_small (l : List UInt8) (ks : List UInt8) (A : Option Addr) (c : Nat) (w : World) (h : Row w w.heap.size 1 A ks.length (bcells ks)) (_hc : ks.length ≤ c) (hk : l.length + ks.length ≤ 1048576) :
    Calls Try.prog 5 #[.string (bs l), .slice A ks.length c] w fun e w' => e = .returned (.bool true) ∧ Below w.heap.size w w' :=
  lkclose_any l ks A c w h (by omega) (by omega)
end Go.Proofs.Ytjkmhcolnidflaa
