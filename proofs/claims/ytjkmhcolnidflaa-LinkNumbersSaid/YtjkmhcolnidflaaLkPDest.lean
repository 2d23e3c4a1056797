/- Package link: Dest. -/
import Derived.Test.YtjkmhcolnidflaaLkPClose
namespace Go.Proofs.Ytjkmhcolnidflaa
open Go.RowKit

theorem next_own_blank {l : List UInt8} {i : Nat} (h : i < l.length) (ho : (Es.next l i).2.2 = true) : blankB ((Es.next l i).1 : Int) = false := by
  rw [Es.next_in h] at ho ⊢
  simp only at ho ⊢
  cases hes : Es.isEsc (l.drop i) with
  | false => rw [Es.step_no hes] at ho; cases ho
  | true =>
    rw [Es.step_yes hes]
    have ha := (Es.asc_iff _).1 (Es.isEsc_asc hes)
    rw [← Bool.not_eq_true]
    intro hb
    have := (Ru.bl_iff _).1 hb
    omega

set_option maxHeartbeats 8000000 in
set_option maxRecDepth 100000 in
theorem pdest_on (l : List UInt8) (k : Nat) (hk : k < l.length) (hs : l.length ≤ 1000000000) (h40 : l[k] = 40) (w : World) :
    Calls Try.prog 15 #[.string (bs l), .int .i64 (k : Int)] w fun e w' => e = .returned (spanV (Lk.dest l (k : Int))) ∧ Below w.heap.size w w' := by
  have hsz := bs_size l
  have qst := fun w => stands_any l (k : Int) 40 40 rfl hs w
  rw [show stand l (k : Int) 40 = true from by rw [stand_in (by omega) (by simpa using hk)]; simpa using h40] at qst
  have hcl := Lk.dest_on hk (by rw [getD_at hk]; exact h40)
  obtain ⟨R, hR⟩ : ∃ R, R = Lk.dest l (k : Int) := ⟨_, rfl⟩
  rw [← hR] at hcl ⊢
  clear hR h40
  replace hcl := Lib.hid hcl
  go_enter Try.func15, Try.ntmps15
  go_wp2_with fail
  refine (qst _).mono ?_
  rintro e w0 ⟨rfl, rfl⟩
  go_wp2_with fail
  go_loopw [8] (fun u wr => ∃ i : Nat, k + 1 ≤ i ∧ i ≤ l.length ∧ u = .int .i64 i ∧ Hid (Lk.dends l (k + 1) = Lk.dends l i) ∧ Below w.heap.size w wr) (fun u _ => l.length - (intOf u).toNat)
  case atStart => exact ⟨k + 1, by omega, by omega, by go_num, Lib.hid rfl, Below.refl _ _⟩
  case round =>
    obtain ⟨i, hi1, hi2, rfl, he, hb⟩ := hrel
    by_cases hil : i < l.length
    · have hst := Lk.dends_step hil
      have hmo := Es.next_more hil
      rw [← he.out] at hst
      have q2 := fun w => pnext_any l (i : Int) hs w trivial
      rw [Int.toNat_natCast] at q2
      unfold nextV at q2
      have hob := next_own_blank hil
      have hlow := fun h => next_byte (c := 41) hil h (by decide)
      have hlow2 := next_low hil
      obtain ⟨⟨r, nx, its⟩, hN⟩ : ∃ x, x = Es.next l i := ⟨_, rfl⟩
      rw [← hN] at q2 hst hmo hob hlow hlow2
      simp only at q2 hst hmo hob hlow hlow2
      clear hN
      cases its with
      | true =>
        have he2 : Hid (Lk.dends l (k + 1) = Lk.dends l nx) := Lib.hid (by rw [hst, if_neg (by simp), if_neg (by simp)])
        have qb := fun w => blank_any (r : Int) w
        rw [hob rfl] at qb
        clear he hst hob hlow hlow2
        go_wp2_with fail
        refine (q2 _).mono ?_
        rintro e w2 ⟨rfl, hb2⟩
        replace hb2 := ext_trans hb hb2
        go_wp2_with fail
        refine (qb _).mono ?_
        rintro e w3 ⟨rfl, rfl⟩
        go_wp2_with fail
        go_roundw
        case rel => exact ⟨nx, by omega, by omega, rfl, he2, hb2⟩
        case measure => simp [intOf]; omega
      | false =>
        by_cases h41 : r = 41
        · have hnx : (nx : Int) = (i : Int) + 1 := by
            have hl : l[i] = 41 := (hlow rfl).1 (by rw [h41]; rfl)
            rcases hlow2 rfl with ⟨_, _, h3⟩ | ⟨h1, _⟩
            · omega
            · rw [hl] at h1; exact absurd h1 (by decide)
          have hres : R = some (Ru.enc (Es.plain (mid l (k + 1) i)), i + 1) := by rw [hcl.out, hst, if_pos ⟨rfl, h41⟩]; rfl
          have t1 : (((r : Nat) : Int) == 41) = true := by simp [h41]
          have hcut := fun w => run_mid_at (S := l) (i := k + 1) (j := i) (v := (k : Int) + 1) (u := (i : Int)) (by omega) (by omega) (by omega) rfl w
          have q3 := fun w => pplain_any (mid l (k + 1) i) w (by rw [mid_len (by omega)]; omega) trivial
          clear he hst h41 hcl hob hlow hlow2
          obtain ⟨T, hT⟩ : ∃ T, T = Ru.enc (Es.plain (mid l (k + 1) i)) := ⟨_, rfl⟩
          rw [← hT] at q3 hres
          clear hT
          have hsp : spanV (some (T, i + 1)) = .tuple #[.string (bs T), .int .i64 (nx : Int), .bool true] := by
            show Value.tuple #[.string (bs T), .int .i64 ((i + 1 : Nat) : Int), .bool true] = _
            rw [hnx]; rfl
          subst hres
          replace hnx := Lib.hid hnx
          replace hsp := Lib.hid hsp
          go_wp2_with fail
          refine (q2 _).mono ?_
          rintro e w2 ⟨rfl, hb2⟩
          replace hb2 := ext_trans hb hb2
          have hcut1 := hcut w2
          go_wp2_with fail
          refine (q3 _).mono ?_
          rintro e w3 ⟨rfl, hb3⟩
          replace hb3 := ext_trans hb2 hb3
          go_wp2
          go_ret3
          exact ⟨congrArg Ending.returned hsp.out.symm, hb3⟩
        · have t1 : (((r : Nat) : Int) == 41) = false := by rw [beq_eq_false_iff_ne]; omega
          rw [if_neg (fun h => h41 h.2)] at hst
          clear hob hlow hlow2
          by_cases h40 : r = 40
          · have hres : R = none := by rw [hcl.out, hst, if_pos ⟨rfl, .inl h40⟩]; rfl
            have t2 : (((r : Nat) : Int) == 40) = true := by simp [h40]
            subst hres
            clear he hst h41 hcl h40
            go_wp2_with fail
            refine (q2 _).mono ?_
            rintro e w2 ⟨rfl, hb2⟩
            replace hb2 := ext_trans hb hb2
            go_wp2
            go_ret3
            exact ⟨rfl, hb2⟩
          · have t2 : (((r : Nat) : Int) == 40) = false := by rw [beq_eq_false_iff_ne]; omega
            have qb := fun w => blank_any (r : Int) w
            cases hbl : blankB (r : Int) with
            | true =>
              have hres : R = none := by rw [hcl.out, hst, if_pos ⟨rfl, .inr hbl⟩]; rfl
              rw [hbl] at qb
              subst hres
              clear he hst h41 hcl h40 hbl
              go_wp2_with fail
              refine (q2 _).mono ?_
              rintro e w2 ⟨rfl, hb2⟩
              replace hb2 := ext_trans hb hb2
              go_wp2_with fail
              refine (qb _).mono ?_
              rintro e w3 ⟨rfl, rfl⟩
              go_wp2
              go_ret3
              exact ⟨rfl, hb2⟩
            | false =>
              have he2 : Hid (Lk.dends l (k + 1) = Lk.dends l nx) := Lib.hid (by rw [hst, if_neg (by rw [hbl]; simp [h40])])
              rw [hbl] at qb
              clear he hst h41 h40 hbl
              go_wp2_with fail
              refine (q2 _).mono ?_
              rintro e w2 ⟨rfl, hb2⟩
              replace hb2 := ext_trans hb hb2
              go_wp2_with fail
              refine (qb _).mono ?_
              rintro e w3 ⟨rfl, rfl⟩
              go_wp2_with fail
              go_roundw
              case rel => exact ⟨nx, by omega, by omega, rfl, he2, hb2⟩
              case measure => simp [intOf]; omega
    · have hres : R = none := by rw [hcl.out, he.out, Lk.dends_out (by omega)]; rfl
      subst hres
      clear hcl he
      go_wp2
      go_ret3
      exact ⟨rfl, hb⟩

set_option maxHeartbeats 1000000 in
theorem pdest_any (l : List UInt8) (at_ : Int) (hs : l.length ≤ 1000000000) (w : World) :
    Calls Try.prog 15 #[.string (bs l), .int .i64 at_] w fun e w' => e = .returned (spanV (Lk.dest l at_)) ∧ Below w.heap.size w w' := by
  cases h : stand l at_ 40 with
  | true =>
    obtain ⟨k, rfl, hk, h40⟩ := stand_yes h
    exact pdest_on l k hk hs h40 w
  | false =>
    have hno : Lk.dest l at_ = none := by
      apply dest_no
      by_cases h1 : at_ < 0
      · exact .inl h1
      · by_cases h2 : (l.length : Int) ≤ at_
        · exact .inr (.inl ⟨by omega, h2⟩)
        · refine .inr (.inr ⟨by omega, by omega, ?_⟩)
          rw [stand_in (by omega) (by omega)] at h
          simpa using h
    have qst := fun w => stands_any l at_ 40 40 rfl hs w
    rw [h] at qst
    rw [hno]
    clear h hno
    go_enter Try.func15, Try.ntmps15
    go_wp2_with fail
    refine (qst _).mono ?_
    rintro e w0 ⟨rfl, rfl⟩
    go_wp2
    go_ret3
    exact ⟨rfl, Below.refl _ _⟩
end Go.Proofs.Ytjkmhcolnidflaa
