/- The document's own links: where a bracket closes. -/
import Derived.Test.YtjkmhcolnidflaaLkRef
namespace Go.Proofs.Ytjkmhcolnidflaa
open Go.RowKit

/-- a place, or none -/
def placeV : Option Nat → Value
  | none => .tuple #[.int .i64 0, .bool false]
  | some p => .tuple #[.int .i64 (p : Int), .bool true]
theorem close_no {l : List UInt8} {at_ : Int} (h : at_ < 0 ∨ (0 ≤ at_ ∧ (l.length : Int) ≤ at_) ∨ (0 ≤ at_ ∧ ∃ h : at_.toNat < l.length, l[at_.toNat] ≠ 91)) : Lk.close l at_ = none := by
  rcases h with h | ⟨h0, h⟩ | ⟨h0, hl, h⟩
  · exact Lk.close_neg h
  · obtain ⟨k, rfl⟩ : ∃ k : Nat, at_ = (k : Int) := ⟨at_.toNat, by omega⟩
    exact Lk.close_off (.inl (by omega))
  · obtain ⟨k, rfl⟩ : ∃ k : Nat, at_ = (k : Int) := ⟨at_.toNat, by omega⟩
    refine Lk.close_off (.inr ?_)
    rw [List.getD_eq_getElem?_getD, List.getElem?_eq_getElem (by simpa using hl)]
    simpa using h

set_option maxHeartbeats 4000000 in
set_option maxRecDepth 100000 in
theorem rclose_out (l : List UInt8) (at_ : Int) (_hs : l.length ≤ 1000000000000) (ho : at_ < 0 ∨ (0 ≤ at_ ∧ (l.length : Int) ≤ at_) ∨ (0 ≤ at_ ∧ ∃ h : at_.toNat < l.length, l[at_.toNat] ≠ 91)) (w : World) :
    Calls Try.prog 18 #[.string (bs l), .int .i64 at_] w fun e w' => e = .returned (placeV none) ∧ Below w.heap.size w w' := by
  have hsz := bs_size l
  rcases ho with h | ⟨h0, h⟩ | ⟨h0, hl, h⟩
  · go_enter Try.func18, Try.ntmps18
    go_wp2
    go_ret2
    exact ⟨rfl, Below.refl _ _⟩
  · go_enter Try.func18, Try.ntmps18
    go_wp2
    go_ret2
    exact ⟨rfl, Below.refl _ _⟩
  · have hix := run_byte_at (i := at_.toNat) (v := at_) (S := l) hl (by omega) w
    have h1 : ((l[at_.toNat].toNat : Int) == 91) = false := byte_ne (n := 91) (by omega) h
    have h' : ((l[at_.toNat].toNat : Int) != 91) = true := by simp only [bne, h1]; rfl
    clear h
    go_enter Try.func18, Try.ntmps18
    go_wp2
    go_ret2
    exact ⟨rfl, Below.refl _ _⟩

set_option maxHeartbeats 8000000 in
set_option maxRecDepth 100000 in
theorem rclose_on (l : List UInt8) (k : Nat) (hk : k < l.length) (hs : l.length ≤ 1000000000000) (h91 : l[k] = 91) (w : World) :
    Calls Try.prog 18 #[.string (bs l), .int .i64 (k : Int)] w fun e w' => e = .returned (placeV (Lk.close l (k : Int))) ∧ Below w.heap.size w w' := by
  have hsz := bs_size l
  have hix := run_byte hk w
  have ht : ((l[k].toNat : Int) == 91) = true := byte_eq (n := 91) (by omega) h91
  have ht2 : ((l[k].toNat : Int) != 91) = false := by simp only [bne, ht]; rfl
  have hcl := Lk.close_on hk (by rw [List.getD_eq_getElem?_getD, List.getElem?_eq_getElem hk]; simpa using h91)
  obtain ⟨R, hR⟩ : ∃ R, R = Lk.close l (k : Int) := ⟨_, rfl⟩
  rw [← hR] at hcl ⊢
  clear hR h91
  replace hcl := Lib.hid hcl
  go_enter Try.func18, Try.ntmps18
  go_wp2_with fail
  have hdk : decide (l.length ≤ k) = false := decide_eq_false (by omega)
  simp only [hdk, Bool.or_false]
  clear hdk
  go_loopw [6, 7] (fun dv u wr => ∃ i d : Nat, k + 1 ≤ i ∧ i ≤ l.length ∧ u = .int .i64 i ∧ dv = .int .i64 d ∧ d ≤ i ∧ Hid (Lk.closes l (k + 1) 0 = Lk.closes l i d) ∧ Below w.heap.size w wr) (fun _ u _ => l.length - (intOf u).toNat)
  case atStart => exact ⟨k + 1, 0, by omega, by omega, by go_num, rfl, by omega, Lib.hid rfl, Below.refl _ _⟩
  case round =>
    obtain ⟨i, d, hi1, hi2, rfl, rfl, hdi, he, hb⟩ := hrel
    clear hix ht ht2
    by_cases hil : i < l.length
    · have hx := fun w => run_byte hil w
      have hon := Lk.closes_on (d := d) hil
      have hup := Lk.closes_up (d := d) hil
      have hhop := Lk.hop_more hil
      rw [← he.out] at hon hup
      have hgi : l.getD i 0 = l[i] := by rw [List.getD_eq_getElem?_getD, List.getElem?_eq_getElem hil]; rfl
      by_cases h96 : l[i] = 96
      · have t : ((l[i].toNat : Int) == 96) = true := byte_eq (n := 96) (by omega) h96
        have q1 := fun w => rspan_any l (i : Int) (by omega) w
        cases hsp : Cd.span l (i : Int) with
        | some x =>
          obtain ⟨tt, e⟩ := x
          obtain ⟨j1, j2⟩ := Lk.hop_span (hgi.trans h96) hsp
          rw [hsp, show spanV (some (tt, e)) = .tuple #[.string (bs tt), .int .i64 (e : Int), .bool true] from rfl] at q1
          have he2 : Hid (Lk.closes l (k + 1) 0 = Lk.closes l e d) := Lib.hid (by rw [hon (by rw [j2]; decide) (by rw [j2]; decide), j1])
          rw [j1] at hhop
          clear hon hup he j1 j2 hsp h96 hgi
          go_wp2_with fail
          refine (q1 _).mono ?_
          rintro e w1 ⟨rfl, rfl⟩
          go_wp2_with fail
          go_roundw
          case rel => exact ⟨e, d, by omega, by omega, rfl, rfl, by omega, he2, hb⟩
          case measure => simp [intOf]; omega
        | none =>
          obtain ⟨j1, j2⟩ := Lk.hop_run (hgi.trans h96) hsp
          rw [hsp, show spanV none = .tuple #[.string ⟨#[]⟩, .int .i64 0, .bool false] from rfl] at q1
          have q2 := fun w => rrun_any l i 96 w (by omega) (by omega)
          obtain ⟨m, hm⟩ : ∃ m, m = Fn.run 96 (l.drop i) := ⟨_, rfl⟩
          rw [← hm] at q2 j1
          have he2 : Hid (Lk.closes l (k + 1) 0 = Lk.closes l (i + m) d) := Lib.hid (by rw [hon (by rw [j2]; decide) (by rw [j2]; decide), j1])
          rw [j1] at hhop
          clear hon hup he j1 j2 hsp h96 hgi hm
          go_wp2_with fail
          refine (q1 _).mono ?_
          rintro e w1 ⟨rfl, rfl⟩
          go_wp2_with fail
          refine (q2 _).mono ?_
          rintro e w1 ⟨rfl, rfl⟩
          go_wp2_with fail
          go_roundw
          case rel => exact ⟨i + m, d, by omega, by omega, by go_num, rfl, by omega, he2, hb⟩
          case measure => simp [intOf]; omega
      · have t : ((l[i].toNat : Int) == 96) = false := byte_ne (n := 96) (by omega) h96
        have hg96 : l.getD i 0 ≠ 96 := by rw [hgi]; exact h96
        have q1 := fun w => rauto_any l (i : Int) hs w
        cases hau : Lk.auto l (i : Int) with
        | some x =>
          obtain ⟨tt, e⟩ := x
          obtain ⟨j1, j2⟩ := Lk.hop_auto hg96 hau
          rw [hau, show spanV (some (tt, e)) = .tuple #[.string (bs tt), .int .i64 (e : Int), .bool true] from rfl] at q1
          have he2 : Hid (Lk.closes l (k + 1) 0 = Lk.closes l e d) := Lib.hid (by rw [hon (by rw [j2]; decide) (by rw [j2]; decide), j1])
          rw [j1] at hhop
          clear hon hup he j1 j2 hau h96 hgi hg96
          go_wp2_with fail
          refine (q1 _).mono ?_
          rintro e w1 ⟨rfl, hb1⟩
          replace hb1 := ext_trans hb hb1
          go_wp2_with fail
          go_roundw
          case rel => exact ⟨e, d, by omega, by omega, rfl, rfl, by omega, he2, hb1⟩
          case measure => simp [intOf]; omega
        | none =>
          obtain ⟨j1, j2⟩ := Lk.hop_next hg96 hau
          rw [hau, show spanV none = .tuple #[.string ⟨#[]⟩, .int .i64 0, .bool false] from rfl] at q1
          have q2 := fun w => rnext_any l (i : Int) hs w
          rw [Int.toNat_natCast] at q2
          unfold nextV at q2
          obtain ⟨⟨r, nx, its⟩, hN⟩ : ∃ x, x = Es.next l i := ⟨_, rfl⟩
          rw [← hN] at q2 j1 j2
          simp only at q2 j1 j2
          rw [j1] at hhop hon hup
          have hdown := fun (d : Nat) h => Lk.closes_down (d := d) hil h
          have hend := fun h => Lk.closes_end hil h
          rw [j1] at hdown
          have hee := he
          clear j1 hau h96 hgi hg96 hN
          cases its with
          | true =>
            rw [if_pos rfl] at j2
            have he2 : Hid (Lk.closes l (k + 1) 0 = Lk.closes l nx d) := Lib.hid (hon (by rw [j2]; decide) (by rw [j2]; decide))
            clear hon hup he hdown hend j2 hee
            go_wp2_with fail
            refine (q1 _).mono ?_
            rintro e w1 ⟨rfl, hb1⟩
            replace hb1 := ext_trans hb hb1
            go_wp2_with fail
            refine (q2 _).mono ?_
            rintro e w2 ⟨rfl, hb2⟩
            replace hb2 := ext_trans hb1 hb2
            go_wp2_with fail
            go_roundw
            case rel => exact ⟨nx, d, by omega, by omega, rfl, rfl, by omega, he2, hb2⟩
            case measure => simp [intOf]; omega
          | false =>
            rw [if_neg (by decide)] at j2
            rw [j2] at hon hup hdown hend
            by_cases h91 : r = 91
            · have he2 : Hid (Lk.closes l (k + 1) 0 = Lk.closes l nx (d + 1)) := Lib.hid (hup h91)
              have t1 : (((r : Nat) : Int) == 91) = true := by simp [h91]
              have t2 : (((r : Nat) : Int) == 93) = false := by simp [h91]
              clear hon hup he hdown hend j2 hee h91
              go_wp2_with fail
              refine (q1 _).mono ?_
              rintro e w1 ⟨rfl, hb1⟩
              replace hb1 := ext_trans hb hb1
              go_wp2_with fail
              refine (q2 _).mono ?_
              rintro e w2 ⟨rfl, hb2⟩
              replace hb2 := ext_trans hb1 hb2
              go_wp2_with fail
              go_roundw
              case rel => exact ⟨nx, d + 1, by omega, by omega, rfl, by go_num, by omega, he2, hb2⟩
              case measure => simp [intOf]; omega
            · have t1 : (((r : Nat) : Int) == 91) = false := by simp; omega
              by_cases h93 : r = 93
              · have t2 : (((r : Nat) : Int) == 93) = true := by simp [h93]
                rcases Nat.eq_zero_or_pos d with hd | hd
                · have hres : R = some i := by rw [hcl.out, hee.out, hd]; exact hend h93
                  have t3 : (((d : Nat) : Int) == 0) = true := by simp [hd]
                  subst hres
                  clear hon hup he hdown hend j2 hee h91 h93 hcl hd
                  go_wp2_with fail
                  refine (q1 _).mono ?_
                  rintro e w1 ⟨rfl, hb1⟩
                  replace hb1 := ext_trans hb hb1
                  go_wp2_with fail
                  refine (q2 _).mono ?_
                  rintro e w2 ⟨rfl, hb2⟩
                  replace hb2 := ext_trans hb1 hb2
                  go_wp2
                  go_ret2
                  exact ⟨rfl, hb2⟩
                · have t3 : (((d : Nat) : Int) == 0) = false := by simp; omega
                  have he2 : Hid (Lk.closes l (k + 1) 0 = Lk.closes l nx (d - 1)) := Lib.hid (by rw [hee.out, show d = d - 1 + 1 by omega]; exact hdown (d - 1) h93)
                  clear hon hup he hdown hend j2 hee h91 h93
                  go_wp2_with fail
                  refine (q1 _).mono ?_
                  rintro e w1 ⟨rfl, hb1⟩
                  replace hb1 := ext_trans hb hb1
                  go_wp2_with fail
                  refine (q2 _).mono ?_
                  rintro e w2 ⟨rfl, hb2⟩
                  replace hb2 := ext_trans hb1 hb2
                  go_wp2_with fail
                  go_roundw
                  case rel => exact ⟨nx, d - 1, by omega, by omega, rfl, by congr 1; omega, by omega, he2, hb2⟩
                  case measure => simp [intOf]; omega
              · have t2 : (((r : Nat) : Int) == 93) = false := by simp; omega
                have he2 : Hid (Lk.closes l (k + 1) 0 = Lk.closes l nx d) := Lib.hid (hon h93 h91)
                clear hon hup he hdown hend j2 hee h91 h93
                go_wp2_with fail
                refine (q1 _).mono ?_
                rintro e w1 ⟨rfl, hb1⟩
                replace hb1 := ext_trans hb hb1
                go_wp2_with fail
                refine (q2 _).mono ?_
                rintro e w2 ⟨rfl, hb2⟩
                replace hb2 := ext_trans hb1 hb2
                go_wp2_with fail
                go_roundw
                case rel => exact ⟨nx, d, by omega, by omega, rfl, rfl, by omega, he2, hb2⟩
                case measure => simp [intOf]; omega
    · have hres : R = none := by rw [hcl.out, he.out, Lk.closes_out (by omega)]
      subst hres
      clear hcl he
      go_wp2
      go_ret2
      exact ⟨rfl, hb⟩

theorem rclose_any (l : List UInt8) (at_ : Int) (hs : l.length ≤ 1000000000000) (w : World) :
    Calls Try.prog 18 #[.string (bs l), .int .i64 at_] w fun e w' => e = .returned (placeV (Lk.close l at_)) ∧ Below w.heap.size w w' := by
  by_cases h : at_ < 0 ∨ (0 ≤ at_ ∧ (l.length : Int) ≤ at_) ∨ (0 ≤ at_ ∧ ∃ h : at_.toNat < l.length, l[at_.toNat] ≠ 91)
  · rw [close_no h]; exact rclose_out l at_ hs h w
  · obtain ⟨k, rfl⟩ : ∃ k : Nat, at_ = (k : Int) := ⟨at_.toNat, by omega⟩
    have hk : k < l.length := by omega
    exact rclose_on l k hk hs (Decidable.byContradiction fun hc => h (.inr (.inr ⟨by omega, by simpa using hk, by simpa using hc⟩))) w
end Go.Proofs.Ytjkmhcolnidflaa
