/- Package link: Close. -/
import Derived.Test.YtjkmhcolnidflaaLkPAuto
namespace Go.Proofs.Ytjkmhcolnidflaa
open Go.RowKit

/-- what stands at a place, and what esc's Next says of it -/
theorem next_own {l : List UInt8} {i : Nat} (h : i < l.length) (ho : (Es.next l i).2.2 = true) : l[i] = 92 := by
  rw [Es.next_in h] at ho
  simp only at ho
  cases hes : Es.isEsc (l.drop i) with
  | true =>
    rw [List.drop_eq_getElem_cons h] at hes
    by_cases h92 : l[i] = 92
    · exact h92
    · rw [Es.isEsc_high h92] at hes; cases hes
  | false => rw [Es.step_no hes] at ho; cases ho
theorem next_low {l : List UInt8} {i : Nat} (h : i < l.length) (ho : (Es.next l i).2.2 = false) :
    (l[i].toNat < 128 ∧ (Es.next l i).1 = l[i].toNat ∧ (Es.next l i).2.1 = i + 1) ∨ (128 ≤ l[i].toNat ∧ 128 ≤ (Es.next l i).1) := by
  rw [Es.next_in h] at ho ⊢
  simp only at ho ⊢
  cases hes : Es.isEsc (l.drop i) with
  | true => rw [Es.step_yes hes] at ho; cases ho
  | false =>
    rw [Es.step_no hes]
    obtain ⟨x, k, _, _, _, _, hdL, hc⟩ := first_rune h
    rw [hdL]
    rcases hc with ⟨h1, h2, h3⟩ | ⟨h1, h2, _⟩
    · exact .inl ⟨h1, h2, by simp only [h3]⟩
    · exact .inr ⟨h1, h2⟩
theorem next_byte {l : List UInt8} {i : Nat} {c : UInt8} (h : i < l.length) (ho : (Es.next l i).2.2 = false) (hc : c.toNat < 128) : (Es.next l i).1 = c.toNat ↔ l[i] = c := by
  rcases next_low h ho with ⟨h1, h2, _⟩ | ⟨h1, h2⟩
  · rw [h2]; exact ⟨fun e => UInt8.toNat_inj.1 e, fun e => by rw [e]⟩
  · exact ⟨fun e => by omega, fun e => by rw [e] at h1; omega⟩
theorem auto_other {l : List UInt8} {i : Nat} (h : i < l.length) (h60 : l[i] ≠ 60) : Lk.auto l (i : Int) = none := by
  cases ha : Lk.auto l (i : Int) with
  | none => rfl
  | some x =>
    obtain ⟨t, e⟩ := x
    have := (Lk.auto_spec ha).2.2
    rw [getD_at h] at this
    exact absurd this h60

/-- where the walk goes on, and what stands there, as the program sees it -/
theorem close_sees {l : List UInt8} {i : Nat} (h : i < l.length) :
    ((Es.next l i).2.2 = true → Lk.hop l i = (Es.next l i).2.1 ∧ Lk.sign l i = 0) ∧
    ((Es.next l i).2.2 = false →
      ((Es.next l i).1 = 96 → Lk.hop l i = behC l i ∧ Lk.sign l i = 0) ∧
      ((Es.next l i).1 = 60 → Lk.hop l i = behA l i ∧ Lk.sign l i ≠ 91 ∧ Lk.sign l i ≠ 93) ∧
      ((Es.next l i).1 ≠ 96 → (Es.next l i).1 ≠ 60 → Lk.hop l i = (Es.next l i).2.1 ∧ Lk.sign l i = (Es.next l i).1)) := by
  have hg := getD_at h
  refine ⟨fun ho => ?_, fun ho => ⟨fun h96 => ?_, fun h60 => ?_, fun h96 h60 => ?_⟩⟩
  · have h92 := next_own h ho
    have := Lk.hop_next (l := l) (i := i) (by rw [hg, h92]; decide) (auto_other h (by rw [h92]; decide))
    rw [ho, if_pos rfl] at this
    exact this
  · have hl : l[i] = 96 := (next_byte (c := 96) h ho (by decide)).1 h96
    unfold Lk.hop Lk.sign behC
    rw [if_pos (by rw [hg, hl]), if_pos (by rw [hg, hl])]
    exact ⟨rfl, rfl⟩
  · have hl : l[i] = 60 := (next_byte (c := 60) h ho (by decide)).1 h60
    have hne : l.getD i 0 ≠ 96 := by rw [hg, hl]; decide
    cases ha : Lk.auto l (i : Int) with
    | some x =>
      obtain ⟨t, e⟩ := x
      obtain ⟨j1, j2⟩ := Lk.hop_auto hne ha
      exact ⟨j1.trans (behA_some ha).symm, by rw [j2]; decide, by rw [j2]; decide⟩
    | none =>
      obtain ⟨j1, j2⟩ := Lk.hop_next hne ha
      rw [ho, if_neg (by decide), h60] at j2
      refine ⟨?_, by rw [j2]; decide, by rw [j2]; decide⟩
      rw [j1, behA_none ha]
      rcases next_low h ho with ⟨_, _, h3⟩ | ⟨h1, _⟩
      · exact h3
      · rw [hl] at h1; exact absurd h1 (by decide)
  · have hl96 : l[i] ≠ 96 := fun e => h96 ((next_byte (c := 96) h ho (by decide)).2 e)
    have hl60 : l[i] ≠ 60 := fun e => h60 ((next_byte (c := 60) h ho (by decide)).2 e)
    have := Lk.hop_next (l := l) (i := i) (by rw [hg]; exact hl96) (auto_other h hl60)
    rw [ho, if_neg (by decide)] at this
    exact this

set_option maxHeartbeats 8000000 in
set_option maxRecDepth 100000 in
theorem pclose_on (l : List UInt8) (k : Nat) (hk : k < l.length) (hs : l.length ≤ 1000000000) (h91 : l[k] = 91) (w : World) :
    Calls Try.prog 11 #[.string (bs l), .int .i64 (k : Int)] w fun e w' => e = .returned (placeV (Lk.close l (k : Int))) ∧ Below w.heap.size w w' := by
  have hsz := bs_size l
  have qst := fun w => stands_any l (k : Int) 91 91 rfl hs w
  rw [show stand l (k : Int) 91 = true from by rw [stand_in (by omega) (by simpa using hk)]; simpa using h91] at qst
  have hcl := Lk.close_on hk (by rw [getD_at hk]; exact h91)
  obtain ⟨R, hR⟩ : ∃ R, R = Lk.close l (k : Int) := ⟨_, rfl⟩
  rw [← hR] at hcl ⊢
  have hfirst : Hid (Es.next l k = (91, k + 1, false)) := Lib.hid (by
    have ho : (Es.next l k).2.2 = false := by
      cases ho : (Es.next l k).2.2 with
      | false => rfl
      | true => have := next_own hk ho; rw [h91] at this; exact absurd this (by decide)
    rcases next_low hk ho with ⟨_, h2, h3⟩ | ⟨h1, _⟩
    · rw [h91] at h2
      exact Prod.ext h2 (Prod.ext h3 ho)
    · rw [h91] at h1; exact absurd h1 (by decide))
  replace hcl := Lib.hid hcl
  clear hR h91
  go_enter Try.func11, Try.ntmps11
  go_wp2_with fail
  refine (qst _).mono ?_
  rintro e w0 ⟨rfl, rfl⟩
  go_wp2_with fail
  go_loopw [1, 6] (fun u dv wr => ∃ i d : Nat, k ≤ i ∧ i ≤ l.length ∧ u = .int .i64 i ∧ dv = .int .i64 d ∧ d ≤ i - k ∧ (d = 0 → i = k) ∧ Hid (0 < d → R = Lk.closes l i (d - 1)) ∧ Below w.heap.size w wr) (fun u _ _ => l.length - (intOf u).toNat)
  case atStart => exact ⟨k, 0, by omega, by omega, by go_num, by go_num, by omega, fun _ => rfl, Lib.hid (fun h => by omega), Below.refl _ _⟩
  case round =>
    obtain ⟨i, d, hi1, hi2, rfl, rfl, hdi, hd0, he, hb⟩ := hrel
    by_cases hil : i < l.length
    · have q2 := fun w => pnext_any l (i : Int) hs w trivial
      rw [Int.toNat_natCast] at q2
      unfold nextV at q2
      have hmo := Es.next_more hil
      rcases Nat.eq_zero_or_pos d with hz | hpos
      · have hik := hd0 hz
        subst hik
        rw [hfirst.out] at q2
        simp only at q2
        have he2 : Hid (0 < 1 → R = Lk.closes l (i + 1) (1 - 1)) := Lib.hid (fun _ => hcl.out)
        have hd1 : (d : Int) + 1 = 1 := by omega
        replace hz := Lib.hid hz
        clear hmo hd0 hcl
        go_wp2_with fail
        refine (q2 _).mono ?_
        rintro e w2 ⟨rfl, hb2⟩
        replace hb2 := ext_trans hb hb2
        go_wp2_with fail
        go_roundw
        case rel => exact ⟨i + 1, 1, by omega, by omega, by go_num, by congr 1, by omega, fun h => by omega, he2, hb2⟩
        case measure => simp [intOf]; omega
      · have hR1 := he.out hpos
        obtain ⟨c, hc⟩ : ∃ c : Nat, d = c + 1 := ⟨d - 1, by omega⟩
        rw [hc, Nat.add_sub_cancel] at hR1
        have hon := Lk.closes_on (d := c) hil
        have hup := Lk.closes_up (d := c) hil
        have hdown := fun (c : Nat) h => Lk.closes_down (d := c) hil h
        have hend := fun h => Lk.closes_end hil h
        have hhop := Lk.hop_more hil
        obtain ⟨sees1, sees2⟩ := close_sees hil
        have qco := fun w => bcode_any l i hil hs w
        have qau := fun w => bauto_any l i hil hs w
        obtain ⟨⟨r, nx, its⟩, hN⟩ : ∃ x, x = Es.next l i := ⟨_, rfl⟩
        rw [← hN] at q2 sees1 sees2 hmo
        simp only at q2 sees1 sees2 hmo
        clear hN
        replace hc := Lib.hid hc
        cases its with
        | true =>
          obtain ⟨j1, j2⟩ := sees1 rfl
          have he2 : Hid (0 < d → R = Lk.closes l nx (d - 1)) := Lib.hid (fun _ => by rw [hc.out, Nat.add_sub_cancel, hR1, hon (by rw [j2]; decide) (by rw [j2]; decide), j1])
          clear hon hup hdown hend hR1 sees1 sees2 j1 j2 qco qau hhop he hc
          go_wp2_with fail
          refine (q2 _).mono ?_
          rintro e w2 ⟨rfl, hb2⟩
          replace hb2 := ext_trans hb hb2
          go_wp2_with fail
          go_roundw
          case rel => exact ⟨nx, d, by omega, by omega, rfl, rfl, by omega, fun h => by omega, he2, hb2⟩
          case measure => simp [intOf]; omega
        | false =>
          obtain ⟨s96, s60, selse⟩ := sees2 rfl
          by_cases h91 : r = 91
          · obtain ⟨j1, j2⟩ := selse (by omega) (by omega)
            have he2 : Hid (0 < d + 1 → R = Lk.closes l nx (d + 1 - 1)) := Lib.hid (fun _ => by rw [Nat.add_sub_cancel, hR1, hup (by rw [j2]; exact h91), j1, hc.out])
            have t1 : (((r : Nat) : Int) == 91) = true := by simp [h91]
            clear hon hup hdown hend hR1 sees1 sees2 j1 j2 qco qau hhop he hc s96 s60 selse h91
            go_wp2_with fail
            refine (q2 _).mono ?_
            rintro e w2 ⟨rfl, hb2⟩
            replace hb2 := ext_trans hb hb2
            go_wp2_with fail
            go_roundw
            case rel => exact ⟨nx, d + 1, by omega, by omega, rfl, by go_num, by omega, fun h => by omega, he2, hb2⟩
            case measure => simp [intOf]; omega
          · have t1 : (((r : Nat) : Int) == 91) = false := by rw [beq_eq_false_iff_ne]; omega
            by_cases h93 : r = 93
            · obtain ⟨j1, j2⟩ := selse (by omega) (by omega)
              have t2 : (((r : Nat) : Int) == 93) = true := by simp [h93]
              rcases Nat.eq_zero_or_pos c with hcz | hcp
              · have hres : R = some i := by rw [hR1, hcz]; exact hend (by rw [j2]; exact h93)
                have t3 : ((d : Int) - 1 == 0) = true := by rw [beq_iff_eq]; have := hc.out; omega
                subst hres
                clear hon hup hdown hend hR1 sees1 sees2 j1 j2 qco qau hhop he hc s96 s60 selse h91 h93 hcz hcl
                go_wp2_with fail
                refine (q2 _).mono ?_
                rintro e w2 ⟨rfl, hb2⟩
                replace hb2 := ext_trans hb hb2
                go_wp2
                go_ret2
                exact ⟨rfl, hb2⟩
              · have t3 : ((d : Int) - 1 == 0) = false := by rw [beq_eq_false_iff_ne]; have := hc.out; omega
                have he2 : Hid (0 < d - 1 → R = Lk.closes l nx (d - 1 - 1)) := Lib.hid (fun _ => by rw [hc.out, Nat.add_sub_cancel, hR1, show c = c - 1 + 1 by omega, hdown (c - 1) (by rw [j2]; exact h93), j1, Nat.add_sub_cancel])
                have hd2 : 2 ≤ d := by have := hc.out; omega
                clear hon hup hdown hend hR1 sees1 sees2 j1 j2 qco qau hhop he hc s96 s60 selse h91 h93
                go_wp2_with fail
                refine (q2 _).mono ?_
                rintro e w2 ⟨rfl, hb2⟩
                replace hb2 := ext_trans hb hb2
                go_wp2_with fail
                go_roundw
                case rel => exact ⟨nx, d - 1, by omega, by omega, rfl, by congr 1; omega, by omega, fun h => by omega, he2, hb2⟩
                case measure => simp [intOf]; omega
            · have t2 : (((r : Nat) : Int) == 93) = false := by rw [beq_eq_false_iff_ne]; omega
              by_cases h96 : r = 96
              · have t4 : (((r : Nat) : Int) == 96) = true := by simp [h96]
                obtain ⟨j1, j2⟩ := s96 h96
                rw [← j1] at qco
                obtain ⟨H, hH⟩ : ∃ H, H = Lk.hop l i := ⟨_, rfl⟩
                rw [← hH] at qco hhop
                have he2 : Hid (0 < d → R = Lk.closes l H (d - 1)) := Lib.hid (fun _ => by rw [hc.out, Nat.add_sub_cancel, hR1, hon (by rw [j2]; decide) (by rw [j2]; decide), hH])
                clear hon hup hdown hend hR1 sees1 sees2 j1 j2 qau he hc s96 s60 selse h91 h93 h96 hH
                go_wp2_with fail
                refine (q2 _).mono ?_
                rintro e w2 ⟨rfl, hb2⟩
                replace hb2 := ext_trans hb hb2
                go_wp2_with fail
                refine (qco _).mono ?_
                rintro e w3 ⟨rfl, hb3⟩
                replace hb3 := ext_trans hb2 hb3
                go_wp2_with fail
                go_roundw
                case rel => exact ⟨H, d, by omega, by omega, rfl, rfl, by omega, fun h => by omega, he2, hb3⟩
                case measure => simp [intOf]; omega
              · have t4 : (((r : Nat) : Int) == 96) = false := by rw [beq_eq_false_iff_ne]; omega
                by_cases h60 : r = 60
                · have t5 : (((r : Nat) : Int) == 60) = true := by simp [h60]
                  obtain ⟨j1, j2, j3⟩ := s60 h60
                  rw [← j1] at qau
                  obtain ⟨H, hH⟩ : ∃ H, H = Lk.hop l i := ⟨_, rfl⟩
                  rw [← hH] at qau hhop
                  have he2 : Hid (0 < d → R = Lk.closes l H (d - 1)) := Lib.hid (fun _ => by rw [hc.out, Nat.add_sub_cancel, hR1, hon j3 j2, hH])
                  clear hon hup hdown hend hR1 sees1 sees2 j1 j2 j3 qco he hc s96 s60 selse h91 h93 h96 h60 hH
                  go_wp2_with fail
                  refine (q2 _).mono ?_
                  rintro e w2 ⟨rfl, hb2⟩
                  replace hb2 := ext_trans hb hb2
                  go_wp2_with fail
                  refine (qau _).mono ?_
                  rintro e w3 ⟨rfl, hb3⟩
                  replace hb3 := ext_trans hb2 hb3
                  go_wp2_with fail
                  go_roundw
                  case rel => exact ⟨H, d, by omega, by omega, rfl, rfl, by omega, fun h => by omega, he2, hb3⟩
                  case measure => simp [intOf]; omega
                · have t5 : (((r : Nat) : Int) == 60) = false := by rw [beq_eq_false_iff_ne]; omega
                  obtain ⟨j1, j2⟩ := selse h96 h60
                  have he2 : Hid (0 < d → R = Lk.closes l nx (d - 1)) := Lib.hid (fun _ => by rw [hc.out, Nat.add_sub_cancel, hR1, hon (by rw [j2]; exact h93) (by rw [j2]; exact h91), j1])
                  clear hon hup hdown hend hR1 sees1 sees2 j1 j2 qco qau hhop he hc s96 s60 selse h91 h93 h96 h60
                  go_wp2_with fail
                  refine (q2 _).mono ?_
                  rintro e w2 ⟨rfl, hb2⟩
                  replace hb2 := ext_trans hb hb2
                  go_wp2_with fail
                  go_roundw
                  case rel => exact ⟨nx, d, by omega, by omega, rfl, rfl, by omega, fun h => by omega, he2, hb2⟩
                  case measure => simp [intOf]; omega
    · have hres : R = none := by
        have hd : 0 < d := by
          rcases Nat.eq_zero_or_pos d with h | h
          · have := hd0 h; omega
          · exact h
        rw [he.out hd, Lk.closes_out (by omega)]
      subst hres
      clear hcl he
      go_wp2
      go_ret2
      exact ⟨rfl, hb⟩

set_option maxHeartbeats 1000000 in
theorem pclose_any (l : List UInt8) (at_ : Int) (hs : l.length ≤ 1000000000) (w : World) :
    Calls Try.prog 11 #[.string (bs l), .int .i64 at_] w fun e w' => e = .returned (placeV (Lk.close l at_)) ∧ Below w.heap.size w w' := by
  cases h : stand l at_ 91 with
  | true =>
    obtain ⟨k, rfl, hk, h91⟩ := stand_yes h
    exact pclose_on l k hk hs h91 w
  | false =>
    have hno : Lk.close l at_ = none := by
      apply close_no
      by_cases h1 : at_ < 0
      · exact .inl h1
      · by_cases h2 : (l.length : Int) ≤ at_
        · exact .inr (.inl ⟨by omega, h2⟩)
        · refine .inr (.inr ⟨by omega, by omega, ?_⟩)
          rw [stand_in (by omega) (by omega)] at h
          simpa using h
    have qst := fun w => stands_any l at_ 91 91 rfl hs w
    rw [h] at qst
    rw [hno]
    clear h hno
    go_enter Try.func11, Try.ntmps11
    go_wp2_with fail
    refine (qst _).mono ?_
    rintro e w0 ⟨rfl, rfl⟩
    go_wp2
    go_ret2
    exact ⟨rfl, Below.refl _ _⟩
end Go.Proofs.Ytjkmhcolnidflaa
