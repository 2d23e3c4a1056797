/- The document's own links: an address between < and >, where a bracket closes, where it leads, whether one may go there: one contract for each function. -/
import Derived.Test.YtjkmhcolnidflaaLkMath
import Derived.Test.YtjkmhcolnidflaaEsRef
import Derived.Test.YtjkmhcolnidflaaCdRef
namespace Go.Proofs.Ytjkmhcolnidflaa
open Go.RowKit

theorem auto_no {l : List UInt8} {at_ : Int} (h : at_ < 0 ∨ (0 ≤ at_ ∧ (l.length : Int) ≤ at_) ∨ (0 ≤ at_ ∧ ∃ h : at_.toNat < l.length, l[at_.toNat] ≠ 60)) : Lk.auto l at_ = none := by
  rcases h with h | ⟨h0, h⟩ | ⟨h0, hl, h⟩
  · exact Lk.auto_neg h
  · obtain ⟨k, rfl⟩ : ∃ k : Nat, at_ = (k : Int) := ⟨at_.toNat, by omega⟩
    exact Lk.auto_off (Lk.starts_no (.inl (by omega)))
  · obtain ⟨k, rfl⟩ : ∃ k : Nat, at_ = (k : Int) := ⟨at_.toNat, by omega⟩
    refine Lk.auto_off (Lk.starts_no (.inr (.inl ?_)))
    rw [List.getD_eq_getElem?_getD, List.getElem?_eq_getElem (by simpa using hl)]
    simpa using h

set_option maxHeartbeats 4000000 in
set_option maxRecDepth 100000 in
theorem rauto_out (l : List UInt8) (at_ : Int) (_hs : l.length ≤ 1000000000000) (ho : at_ < 0 ∨ (0 ≤ at_ ∧ (l.length : Int) ≤ at_) ∨ (0 ≤ at_ ∧ ∃ h : at_.toNat < l.length, l[at_.toNat] ≠ 60)) (w : World) :
    Calls Try.prog 17 #[.string (bs l), .int .i64 at_] w fun e w' => e = .returned (spanV none) ∧ Below w.heap.size w w' := by
  have hsz := bs_size l
  rcases ho with h | ⟨h0, h⟩ | ⟨h0, hl, h⟩
  · go_enter Try.func17, Try.ntmps17
    go_wp2
    go_ret3
    exact ⟨rfl, Below.refl _ _⟩
  · go_enter Try.func17, Try.ntmps17
    go_wp2
    go_ret3
    exact ⟨rfl, Below.refl _ _⟩
  · have hix := run_byte_at (i := at_.toNat) (v := at_) (S := l) hl (by omega) w
    have h1 : ((l[at_.toNat].toNat : Int) == 60) = false := byte_ne (n := 60) (by omega) h
    have h' : ((l[at_.toNat].toNat : Int) != 60) = true := by simp only [bne, h1]; rfl
    clear h
    go_enter Try.func17, Try.ntmps17
    go_wp2
    go_ret3
    exact ⟨rfl, Below.refl _ _⟩

set_option maxHeartbeats 4000000 in
set_option maxRecDepth 100000 in
theorem rauto_on (l : List UInt8) (k : Nat) (hk : k < l.length) (hs : l.length ≤ 1000000000000) (h60 : l[k] = 60) (w : World) :
    Calls Try.prog 17 #[.string (bs l), .int .i64 (k : Int)] w fun e w' => e = .returned (spanV (Lk.auto l (k : Int))) ∧ Below w.heap.size w w' := by
  have hsz := bs_size l
  have hix := run_byte hk w
  have ht : ((l[k].toNat : Int) == 60) = true := byte_eq (n := 60) (by omega) h60
  have ht2 : ((l[k].toNat : Int) != 60) = false := by simp only [bne, ht]; rfl
  have hg60 : Hid (l.getD k 0 = 60) := Lib.hid (by rw [List.getD_eq_getElem?_getD, List.getElem?_eq_getElem hk]; simpa using h60)
  clear h60
  have hnl := Lk.letters_le (l.drop (k + 1))
  rw [List.length_drop] at hnl
  have hon := fun h => Lk.auto_on (l := l) (k := k) h rfl
  have hoff := fun h => Lk.auto_off (l := l) (k := k) (Lk.starts_no (.inr (.inr h)))
  have hst : 2 ≤ Lk.letters (l.drop (k + 1)) → Lk.letters (l.drop (k + 1)) ≤ 12 → l.getD (k + 1 + Lk.letters (l.drop (k + 1))) 0 = 58 → Lk.starts l k = true := fun h1 h2 h3 => by
    unfold Lk.starts; exact decide_eq_true ⟨hk, hg60.out, h1, h2, h3⟩
  obtain ⟨R, hR⟩ : ∃ R, R = Lk.auto l (k : Int) := ⟨_, rfl⟩
  rw [← hR] at hon hoff ⊢
  clear hR hg60
  obtain ⟨n, hn⟩ : ∃ n, n = Lk.letters (l.drop (k + 1)) := ⟨_, rfl⟩
  rw [← hn] at hon hoff hst hnl
  replace hn := Lib.hid hn
  replace hon := Lib.hid (fun h1 h2 h3 => hon (hst h1 h2 h3))
  replace hoff := Lib.hid hoff
  clear hst
  go_enter Try.func17, Try.ntmps17
  go_wp2_with fail
  go_loop [7] (fun u => ∃ i : Nat, k + 1 ≤ i ∧ i ≤ l.length ∧ u = .int .i64 i ∧ Hid (i + Lk.letters (l.drop i) = k + 1 + n)) (fun u => l.length - (intOf u).toNat)
  case atStart => exact ⟨k + 1, by omega, by omega, by go_num, Lib.hid (by rw [hn.out])⟩
  case round =>
    obtain ⟨i, hi1, hi2, rfl, hf⟩ := hrel
    clear hix ht ht2
    by_cases hil : i < l.length
    · have hx := run_byte hil w
      cases hsm : Lk.small l[i] with
      | true =>
        have hf2 : Hid (i + 1 + Lk.letters (l.drop (i + 1)) = k + 1 + n) := Lib.hid (by have := hf.out; rw [Lk.letters_at hil hsm] at this; omega)
        obtain ⟨q1, q2⟩ := (Lk.small_iff _).1 hsm
        clear hsm
        go_wp2
        go_round
        case rel => exact ⟨i + 1, by omega, by omega, by go_num, hf2⟩
        case measure => simp [intOf]; omega
      | false =>
        have hin : i = k + 1 + n := by have := hf.out; rw [Lk.letters_no hil hsm] at this; omega
        have hgi : l.getD (k + 1 + n) 0 = l[i] := by rw [← hin, List.getD_eq_getElem?_getD, List.getElem?_eq_getElem hil]; rfl
        have hb8 := l[i].toNat_lt
        rw [hgi] at hoff hon
        clear hf hgi
        have hin1 : i ≤ k + 1 + n := by omega
        have hin2 : k + 1 + n ≤ i := by omega
        replace hin := Lib.hid hin
        by_cases h2 : n < 2
        · have hres : R = none := hoff.out (.inl h2)
          subst hres
          clear hoff hon
          have hcase := Lk.small_no hsm
          clear hsm
          rcases hcase with q | ⟨q1, q2⟩
          all_goals
            go_wp2
            go_ret3
            exact ⟨rfl, Below.refl _ _⟩
        · by_cases h12 : 12 < n
          · have hres : R = none := hoff.out (.inr (.inl h12))
            subst hres
            clear hoff hon
            have hcase := Lk.small_no hsm
            clear hsm
            rcases hcase with q | ⟨q1, q2⟩
            all_goals
              go_wp2
              go_ret3
              exact ⟨rfl, Below.refl _ _⟩
          · by_cases h58 : l[i] = 58
            · have hR2 : R = (Lk.ends l i).map fun j => (mid l (k + 1) j, j + 1) := by rw [hin.out]; exact hon.out (by omega) (by omega) h58
              have t58 : ((l[i].toNat : Int) == 58) = true := byte_eq (n := 58) (by omega) h58
              have t58' : ((l[i].toNat : Int) != 58) = false := by simp only [bne, t58]; rfl
              have q : l[i].toNat < 97 := by rw [h58]; decide
              have tle : ((i : Int) == (l.length : Int)) = false := by simp; omega
              replace hR2 := Lib.hid hR2
              clear hoff hon hsm h58
              go_wp2_with fail
              go_loopw [7, 9, 10] (fun u _ _ wr => ∃ j : Nat, i ≤ j ∧ j ≤ l.length ∧ u = .int .i64 j ∧ Hid (Lk.ends l i = Lk.ends l j) ∧ Below w.heap.size w wr) (fun u _ _ _ => l.length - (intOf u).toNat)
              case atStart => exact ⟨i, by omega, hi2, by go_num, Lib.hid rfl, Below.refl _ _⟩
              case round =>
                obtain ⟨j, hj1, hj2, rfl, he, hb⟩ := hrel
                clear hx t58 t58'
                by_cases hjl : j < l.length
                · have hstep := Lk.ends_step hjl
                  rw [← he.out] at hstep
                  have hw1 := Lib.decodeL_width (l.drop j)
                  have hw2 := Lib.decodeL_le (l.drop j) (Es.drop_ne hjl)
                  rw [List.length_drop] at hw2
                  have q1 := rone_any l j hjl (by omega) wr
                  obtain ⟨x, hx⟩ : ∃ x, x = (Lib.decodeL (l.drop j)).1 := ⟨_, rfl⟩
                  obtain ⟨m, hm⟩ : ∃ m, m = (Lib.decodeL (l.drop j)).2 := ⟨_, rfl⟩
                  rw [← hx] at q1 hstep
                  rw [← hm] at q1 hstep hw1 hw2
                  clear hx hm
                  by_cases h62 : x = 62
                  · have hres : R = some (mid l (k + 1) j, j + 1) := by rw [hR2.out, hstep, if_pos h62]; rfl
                    have t : (((x : Nat) : Int) == 62) = true := by simp [h62]
                    have hcut := fun w => run_mid_at (S := l) (i := k + 1) (j := j) (v := (k : Int) + 1) (u := (j : Int)) (by omega) (by omega) (by omega) rfl w
                    subst hres
                    clear hstep he hR2 h62
                    go_wp2_with fail
                    refine q1.mono ?_
                    rintro e w1 ⟨rfl, hb1⟩
                    replace hb1 := ext_trans hb hb1
                    have hcut1 := hcut w1
                    go_wp2
                    go_ret3
                    exact ⟨rfl, hb1⟩
                  · have t : (((x : Nat) : Int) == 62) = false := by simp; omega
                    rw [if_neg h62] at hstep
                    by_cases h60 : x = 60
                    · have hres : R = none := by rw [hR2.out, hstep, if_pos (.inl h60)]; rfl
                      have t2 : (((x : Nat) : Int) == 60) = true := by simp [h60]
                      subst hres
                      clear hstep he hR2 h62 h60
                      go_wp2_with fail
                      refine q1.mono ?_
                      rintro e w1 ⟨rfl, hb1⟩
                      replace hb1 := ext_trans hb hb1
                      go_wp2
                      go_ret3
                      exact ⟨rfl, hb1⟩
                    · have t2 : (((x : Nat) : Int) == 60) = false := by simp; omega
                      have qb := fun w => rblank_any (x : Int) w
                      cases hbl : blankB (x : Int) with
                      | true =>
                        have hres : R = none := by rw [hR2.out, hstep, if_pos (.inr hbl)]; rfl
                        rw [hbl] at qb
                        subst hres
                        clear hstep he hR2 h62 h60 hbl
                        go_wp2_with fail
                        refine q1.mono ?_
                        rintro e w1 ⟨rfl, hb1⟩
                        replace hb1 := ext_trans hb hb1
                        go_wp2_with fail
                        refine (qb _).mono ?_
                        rintro e w2 ⟨rfl, rfl⟩
                        go_wp2
                        go_ret3
                        exact ⟨rfl, hb1⟩
                      | false =>
                        rw [if_neg (by rw [hbl]; simp [h60])] at hstep
                        rw [hbl] at qb
                        have he2 : Hid (Lk.ends l i = Lk.ends l (j + m)) := Lib.hid hstep
                        clear hstep he h62 h60 hbl
                        go_wp2_with fail
                        refine q1.mono ?_
                        rintro e w1 ⟨rfl, hb1⟩
                        replace hb1 := ext_trans hb hb1
                        go_wp2_with fail
                        refine (qb _).mono ?_
                        rintro e w2 ⟨rfl, rfl⟩
                        go_wp2_with fail
                        go_roundw
                        case rel => exact ⟨j + m, by omega, by omega, by go_num, he2, hb1⟩
                        case measure => simp [intOf]; omega
                · have hres : R = none := by rw [hR2.out, he.out, Lk.ends_out (by omega)]; rfl
                  subst hres
                  clear he hR2
                  go_wp2
                  go_ret3
                  exact ⟨rfl, hb⟩
            · have hres : R = none := hoff.out (.inr (.inr h58))
              have t58 : ((l[i].toNat : Int) == 58) = false := byte_ne (n := 58) (by omega) h58
              have t58' : ((l[i].toNat : Int) != 58) = true := by simp only [bne, t58]; rfl
              subst hres
              clear hoff hon h58
              have hcase := Lk.small_no hsm
              clear hsm
              rcases hcase with q | ⟨q1, q2⟩
              all_goals
                go_wp2
                go_ret3
                exact ⟨rfl, Below.refl _ _⟩
    · have hin : i = k + 1 + n := by have := hf.out; rw [Lk.letters_end hil] at this; omega
      have hgi : l.getD (k + 1 + n) 0 = 0 := by rw [← hin, List.getD_eq_getElem?_getD, List.getElem?_eq_none (by omega)]; rfl
      have hres : R = none := hoff.out (.inr (.inr (by rw [hgi]; decide)))
      subst hres
      have hin1 : i ≤ k + 1 + n := by omega
      have hin2 : k + 1 + n ≤ i := by omega
      clear hoff hon hf hgi hin
      by_cases h2 : n < 2
      · go_wp2
        go_ret3
        exact ⟨rfl, Below.refl _ _⟩
      · by_cases h12 : 12 < n
        · go_wp2
          go_ret3
          exact ⟨rfl, Below.refl _ _⟩
        · go_wp2
          go_ret3
          exact ⟨rfl, Below.refl _ _⟩

theorem rauto_any (l : List UInt8) (at_ : Int) (hs : l.length ≤ 1000000000000) (w : World) :
    Calls Try.prog 17 #[.string (bs l), .int .i64 at_] w fun e w' => e = .returned (spanV (Lk.auto l at_)) ∧ Below w.heap.size w w' := by
  by_cases h : at_ < 0 ∨ (0 ≤ at_ ∧ (l.length : Int) ≤ at_) ∨ (0 ≤ at_ ∧ ∃ h : at_.toNat < l.length, l[at_.toNat] ≠ 60)
  · rw [auto_no h]; exact rauto_out l at_ hs h w
  · obtain ⟨k, rfl⟩ : ∃ k : Nat, at_ = (k : Int) := ⟨at_.toNat, by omega⟩
    have hk : k < l.length := by omega
    exact rauto_on l k hk hs (Decidable.byContradiction fun hc => h (.inr (.inr ⟨by omega, by simpa using hk, by simpa using hc⟩))) w
end Go.Proofs.Ytjkmhcolnidflaa
