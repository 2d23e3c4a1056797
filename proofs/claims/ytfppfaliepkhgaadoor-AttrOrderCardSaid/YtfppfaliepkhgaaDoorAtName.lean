/- The document's own answer of chapter 5: names. -/
import Derived.Test.YtfppfaliepkhgaaDoorAtRef3
import Derived.Test.YtfppfaliepkhgaaDoorRnRunes
namespace Go.Proofs.YtfppfaliepkhgaaDoor
open Go.RowKit

def At.sharp : List UInt8 := [60, 62, 91, 93, 35, 34, 92]
def At.nameRune (x : Nat) : Bool := !(decide (x < 32) || (decide (x < 128) && decide (UInt8.ofNat x ∈ At.sharp)))
def At.name (l : List UInt8) : Bool := decide (1 ≤ l.length ∧ l.length ≤ 60) && decide (Ru.enc (Ru.runes l) = l) && !At.blank ((Ru.runes l).headD 0) && !At.blank ((Ru.runes l).getLastD 0) && (Ru.runes l).all At.nameRune

theorem rune_cell {X : List Nat} {w : World} {B : Nat} {A : Option Addr} (h : Row w B 1 A X.length (rcells X)) (hn : 0 < X.length) :
    ∃ b o, A = some ⟨b, o, none⟩ ∧ b < B ∧ ∀ k, (hk : k < X.length) → w.cell? ⟨b, o + k, none⟩ = some (.int .i32 (X[k] : Int)) := by
  obtain ⟨b, o, e, hb, hc⟩ := h.at1 hn
  exact ⟨b, o, e, hb, fun k hk => by rw [hc k hk]; simp [rcells]⟩

theorem run_low {x : Nat} (h : x < 128) (w : World) : (convert 21 5 (.int .i32 (x : Int))).run Tryd.prog w = .ok (.int .u8 ((UInt8.ofNat x).toNat : Int)) w := by
  have e : ((UInt8.ofNat x).toNat : Int) = (x : Int) := by rw [UInt8.toNat_ofNat']; omega
  rw [e, run_convert_int w 21 5 .i32 (x : Int) (by kernel_rfl) (by kernel_rfl)]
  rw [show Tryd.prog.intKind 5 = .u8 from by kernel_rfl, IntKind.wrap_u8, show (x : Int) % 256 = (x : Int) from by omega]

theorem name_tests (x : Nat) : (decide ((x : Int) < 32) = true ∧ At.nameRune x = false) ∨ (decide ((x : Int) < 32) = false ∧ decide ((x : Int) < 128) = false ∧ At.nameRune x = true) ∨
    (x < 128 ∧ decide ((x : Int) < 32) = false ∧ decide ((x : Int) < 128) = true ∧ decide (UInt8.ofNat x ∈ At.sharp) = true ∧ At.nameRune x = false) ∨ (x < 128 ∧ decide ((x : Int) < 32) = false ∧ decide ((x : Int) < 128) = true ∧ decide (UInt8.ofNat x ∈ At.sharp) = false ∧ At.nameRune x = true) := by
  have e1 : decide ((x : Int) < 32) = decide (x < 32) := by rw [decide_eq_decide]; omega
  have e2 : decide ((x : Int) < 128) = decide (x < 128) := by rw [decide_eq_decide]; omega
  rw [e1, e2]
  unfold At.nameRune
  by_cases h : x < 128
  · rw [decide_eq_true h]
    cases decide (x < 32) <;> cases decide (UInt8.ofNat x ∈ At.sharp) <;> simp [h]
  · rw [decide_eq_false h]
    cases decide (x < 32) <;> simp [h]
theorem blank_cases (x : Nat) : At.blank x = true ∨ At.blank x = false := by cases At.blank x <;> simp

set_option maxHeartbeats 8000000 in
set_option maxRecDepth 100000 in
theorem name_any (l : List UInt8) (w : World) (hl : l.length ≤ 1000000000) :
    Calls Tryd.prog 15 #[.string (bs l)] w fun e w' => e = .returned (.bool (At.name l)) ∧ Below w.heap.size w w' := by
  have hsz := bs_size l
  have hne0 : l ≠ [] → Ru.runes l ≠ [] := Ru.runes_ne
  have hsp : At.name l = (decide (1 ≤ l.length ∧ l.length ≤ 60) && decide (Ru.enc (Ru.runes l) = l) && !At.blank ((Ru.runes l).headD 0) && !At.blank ((Ru.runes l).getLastD 0) && (Ru.runes l).all At.nameRune) := rfl
  have hrl := Ru.runes_len l
  have hrn := fun w => rrunes_any l w hl
  obtain ⟨X, hX⟩ : ∃ X, Ru.runes l = X := ⟨_, rfl⟩
  rw [hX] at hsp hrl hrn hne0
  clear hX
  by_cases hlen : 1 ≤ l.length ∧ l.length ≤ 60
  · obtain ⟨n, hn⟩ : ∃ n, X.length = n + 1 := ⟨X.length - 1, by
      have : 0 < X.length := List.length_pos_iff.2 (hne0 (List.ne_nil_of_length_pos (by omega)))
      omega⟩
    have hhd : X.headD 0 = X[0]'(by omega) := by
      rw [List.headD_eq_head?_getD, List.head?_eq_getElem?, List.getElem?_eq_getElem (by omega)]; rfl
    have hlt : X.getLastD 0 = X[n]'(by omega) := by
      have hn1 : X.length - 1 = n := by omega
      rw [List.getLastD_eq_getLast?, List.getLast?_eq_getElem?, hn1, List.getElem?_eq_getElem (by omega)]; rfl
    rw [hhd, hlt, decide_eq_true hlen, Bool.true_and] at hsp
    have hl1 : decide ((l.length : Int) < 1) = false := by simp; omega
    have hl2 : decide ((60 : Int) < (l.length : Int)) = false := by simp; omega
    by_cases henc : Ru.enc X = l
    · rw [decide_eq_true henc, Bool.true_and] at hsp
      have hq : Hid (bs (Ru.enc X) = bs l) := Lib.hid (by rw [henc])
      have b1 := fun w => rblank_any (X[0]'(by omega)) w
      have b2 := fun w => rblank_any (X[n]'(by omega)) w
      obtain ⟨B1, hB1⟩ : ∃ B, At.blank (X[0]'(by omega)) = B := ⟨_, rfl⟩
      obtain ⟨B2, hB2⟩ : ∃ B, At.blank (X[n]'(by omega)) = B := ⟨_, rfl⟩
      rw [hB1] at b1 hsp
      rw [hB2] at b2 hsp
      clear hB1 hB2 hhd hlt henc hne0 hlen
      rw [hn] at hrn
      have hnl : n + 1 ≤ l.length := by omega
      replace hn := Lib.hid hn
      go_enter Tryd.func15, Tryd.ntmps15
      go_wp2_with fail
      refine (hrn _).mono ?_
      rintro e w1 ⟨⟨v, rfl, hown⟩, hb1⟩
      obtain ⟨A, c, rfl, hlc⟩ := own_shape hown
      have hR := Row.own hown
      have hcv := run_runes (c := c) hR 55 21 9 Tryd.underlying55 Tryd.underlying21 Tryd.underlying9
      rw [hq.out] at hcv
      obtain ⟨b, o, rfl, hbb, hc⟩ := rune_cell (X := X) (by rw [hn.out]; exact hR) (by rw [hn.out]; omega)
      have d0 := hc 0 (by rw [hn.out]; omega)
      have dn := hc n (by rw [hn.out]; omega)
      rw [Nat.add_zero] at d0
      replace hR := Lib.hid hR
      replace hown := Lib.hid hown
      replace hb1 := Lib.hid hb1
      have hcc := Lib.hid hc
      clear hc
      have hcl : ((bs l).toList != (bs l).toList) = false := by simp
      go_wp2_with fail
      refine (b1 _).mono ?_
      rintro e w' ⟨rfl, rfl⟩
      cases B1 with
      | true =>
        have hfin : Hid (At.name l = false) := Lib.hid (by rw [hsp]; rfl)
        clear hsp
        go_wp2
        go_ret
        exact ⟨by rw [hfin.out]; rfl, hb1.out⟩
      | false =>
        go_wp2_with fail
        refine (b2 _).mono ?_
        rintro e w' ⟨rfl, rfl⟩
        cases B2 with
        | true =>
          have hfin : Hid (At.name l = false) := Lib.hid (by rw [hsp]; rfl)
          clear hsp
          go_wp2
          go_ret
          exact ⟨by rw [hfin.out]; rfl, hb1.out⟩
        | false =>
          have hsp2 : Hid (At.name l = X.all At.nameRune) := Lib.hid (by rw [hsp]; simp)
          clear hsp
          go_wp2_with fail
          go_loop [39] (fun u => ∃ k : Nat, k ≤ n + 1 ∧ u = .int .i64 (k : Int) ∧ Hid (X.all At.nameRune = (X.drop k).all At.nameRune)) (fun u => n + 1 - (intOf u).toNat)
          case atStart => exact ⟨0, by omega, rfl, Lib.hid rfl⟩
          case round =>
            obtain ⟨k, hk, rfl, hf⟩ := hrel
            by_cases hlt : k < n + 1
            · have hkX : k < X.length := by rw [hn.out]; exact hlt
              have hx := hcc.out k hkX
              have hd : (X.drop k).all At.nameRune = (At.nameRune X[k] && (X.drop (k + 1)).all At.nameRune) := by rw [List.drop_eq_getElem_cons hkX, List.all_cons]
              have hways := name_tests X[k]
              have hlow := fun (h : X[k] < 128) => run_low h
              have hhs : ∀ w, Calls Tryd.prog 31 #[.string ⟨#[60, 62, 91, 93, 35, 34, 92]⟩, .int .u8 ((UInt8.ofNat X[k]).toNat : Int)] w fun e w' => e = .returned (.bool (decide (UInt8.ofNat X[k] ∈ At.sharp))) ∧ w = w' := fun w => has5_any At.sharp _ w (by decide)
              obtain ⟨x, hxx⟩ : ∃ x, X[k] = x := ⟨_, rfl⟩
              rw [hxx] at hx hd hways hlow hhs
              obtain ⟨y, hy⟩ : ∃ y, UInt8.ofNat x = y := ⟨_, rfl⟩
              rw [hy] at hways hlow hhs
              clear hxx hy hkX
              rcases hways with ⟨g1, h⟩ | ⟨g1, g2, h⟩ | ⟨hl, g1, g2, g3, h⟩ | ⟨hl, g1, g2, g3, h⟩
              · have hfin : Hid (At.name l = false) := Lib.hid (by rw [hsp2.out, hf.out, hd, h]; rfl)
                clear hd h hlow hhs
                go_wp2
                go_returns
                exact ⟨by rw [hfin.out]; rfl, hb1.out⟩
              · have hf2 : Hid (X.all At.nameRune = (X.drop (k + 1)).all At.nameRune) := Lib.hid (by rw [hf.out, hd, h, Bool.true_and])
                clear hd h hlow hhs
                go_wp2
                go_round
                case rel => exact ⟨k + 1, by omega, by go_num, hf2⟩
                case measure => simp [intOf]; omega
              · have hfin : Hid (At.name l = false) := Lib.hid (by rw [hsp2.out, hf.out, hd, h]; rfl)
                replace hlow := hlow hl
                rw [g3] at hhs
                clear hd h g3
                go_wp2_with (go_at_call 31; refine (hhs _).mono ?_; rintro e w' ⟨rfl, rfl⟩)
                go_returns
                exact ⟨by rw [hfin.out]; rfl, hb1.out⟩
              · have hf2 : Hid (X.all At.nameRune = (X.drop (k + 1)).all At.nameRune) := Lib.hid (by rw [hf.out, hd, h, Bool.true_and])
                replace hlow := hlow hl
                rw [g3] at hhs
                clear hd h g3
                go_wp2_with (go_at_call 31; refine (hhs _).mono ?_; rintro e w' ⟨rfl, rfl⟩)
                go_round
                case rel => exact ⟨k + 1, by omega, by go_num, hf2⟩
                case measure => simp [intOf]; omega
            · have hfin : Hid (At.name l = true) := Lib.hid (by rw [hsp2.out, hf.out, List.drop_eq_nil_of_le (by rw [hn.out]; omega)]; rfl)
              go_wp2
              go_returns
              exact ⟨by rw [hfin.out]; rfl, hb1.out⟩
    · have hfin : Hid (At.name l = false) := Lib.hid (by rw [hsp, decide_eq_false henc]; rfl)
      have hq : Hid (Ru.enc X ≠ l) := Lib.hid henc
      clear hhd hlt henc hne0 hlen hsp
      rw [hn] at hrn
      have hnl : n + 1 ≤ l.length := by omega
      replace hn := Lib.hid hn
      go_enter Tryd.func15, Tryd.ntmps15
      go_wp2_with fail
      refine (hrn _).mono ?_
      rintro e w1 ⟨⟨v, rfl, hown⟩, hb1⟩
      obtain ⟨A, c, rfl, hlc⟩ := own_shape hown
      have hR := Row.own hown
      have hcv := run_runes (c := c) hR 55 21 9 Tryd.underlying55 Tryd.underlying21 Tryd.underlying9
      replace hR := Lib.hid hR
      replace hown := Lib.hid hown
      replace hb1 := Lib.hid hb1
      have hcl := bs_ne hq.out
      go_wp2
      go_ret
      exact ⟨by rw [hfin.out]; rfl, hb1.out⟩
  · have hfin : Hid (At.name l = false) := Lib.hid (by rw [hsp, decide_eq_false hlen]; rfl)
    have hways : decide ((l.length : Int) < 1) = true ∨ (decide ((l.length : Int) < 1) = false ∧ decide ((60 : Int) < (l.length : Int)) = true) := by
      by_cases h : l.length < 1
      · exact .inl (by simp; omega)
      · exact .inr ⟨by simp; omega, by simp; omega⟩
    clear hsp hlen hne0
    rcases hways with g1 | ⟨g1, g2⟩
    all_goals
      go_enter Tryd.func15, Tryd.ntmps15
      go_wp2_with fail
      refine (hrn _).mono ?_
      rintro e w1 ⟨⟨v, rfl, hown⟩, hb1⟩
      replace hown := Lib.hid hown
      replace hb1 := Lib.hid hb1
      go_wp2
      go_ret
      exact ⟨by rw [hfin.out]; rfl, hb1.out⟩
end Go.Proofs.YtfppfaliepkhgaaDoor
