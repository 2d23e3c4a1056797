/- RunesKinds: no rune is two of blank, punctuation, letter; signs that stand for themselves are punctuation. -/
import Derived.Test.YtlpjpgcdcigihaaDoorRnKnown
import Derived.Test.YtlpjpgcdcigihaaDoorOpenW
namespace Go.Proofs.YtlpjpgcdcigihaaDoor
open Go.RowKit

/-- numbers as cells -/
def zcells (X : List Int) : List Value := X.map (Value.int .i32)
theorem kinds4 (x : Int) : (blankB x = true ∧ punctB x = false ∧ letterB x = false) ∨ (blankB x = false ∧ punctB x = true ∧ letterB x = false) ∨ (blankB x = false ∧ punctB x = false ∧ letterB x = true) ∨
    (blankB x = false ∧ punctB x = false ∧ letterB x = false ∧ (x ≤ 32 ∨ (32 < x ∧ 127 ≤ x) ∨ (32 < x ∧ x < 127 ∧ 48 ≤ x ∧ x ≤ 57))) := by
  cases h1 : blankB x <;> cases h2 : punctB x <;> cases h3 : letterB x <;>
    simp [blankB, punctB, letterB] at h1 h2 h3 <;> simp <;> omega

theorem own_lit3 (w : World) (T : TypeId) (x y z : Value) : (w.alloc (.cells #[x, y, z] T)).ownsRow w.heap.size T 1 (.slice (some ⟨w.heap.size, 0, none⟩) 3 3) 3 [x, y, z] :=
  ⟨rfl, .inr ⟨w.heap.size, 3, #[x, y, z], rfl, Nat.le_refl _, heap_alloc_new w _, Nat.le_refl _, by unfold maxLen; omega, rfl, rfl⟩⟩

set_option maxHeartbeats 4000000 in
set_option maxRecDepth 100000 in
theorem kinds_law (r : Int) (l : List Nat) (A : Option Addr) (c : Nat) (w : World) (_hr : -2147483648 ≤ r ∧ r ≤ 2147483647) (h1 : Row w w.heap.size 1 A l.length (ucells l)) (_hc : l.length ≤ c) (hcm : c ≤ maxLen) (hx : ∀ x ∈ l, x ≤ 65535) (hT : Tabs w) :
    Calls Tryd.prog 6 #[.int .i32 r, .slice A l.length c] w fun e w' => e = .returned (.bool true) ∧ Below w.heap.size w w' := by
  have hR := Lib.hid h1
  replace hT := Lib.hid hT
  replace hx := Lib.hid hx
  have hlm : l.length ≤ 9223372036854775807 := by unfold maxLen at hcm; omega
  clear h1
  go_enter Tryd.func6, Tryd.ntmps6
  go_wp2_with fail
  go_loopw [5, 6] (fun v i wr => ∃ (k : Nat) (X : List Int), k ≤ l.length ∧ k ≤ 30 ∧ X.length = k + 3 ∧ i = .int .i64 k ∧ wr.ownsRow w.heap.size 21 1 v X.length (zcells X) ∧ Below w.heap.size w wr)
    (fun _ i _ => l.length - (intOf i).toNat)
  case atStart => exact ⟨0, [_, _, _], Nat.zero_le _, Nat.zero_le _, rfl, rfl, own_lit3 _ _ _ _ _, ext_alloc _ _⟩
  case round =>
    obtain ⟨k, X, hk1, hk2, hX, rfl, hown, hb⟩ := hrel
    have hz := hb.size
    by_cases hgo : k < l.length ∧ k < 30
    · obtain ⟨hg1, hg2⟩ := hgo
      obtain ⟨b, o, rfl, hbb, hc⟩ := word_cell hR.out (by omega)
      have hcell : wr.cell? ⟨b, o + k, none⟩ = some (.int .u16 (l[k] : Int)) := (hb.cell hbb).trans (hc k hg1)
      have hlk := hx.out l[k] (List.getElem_mem hg1)
      clear hc
      go_wp2_with (at_builtin; refine wpList_app_new rfl (.tmp 28) (.tmp 34) rfl runeEI rfl hown rfl rfl rfl (by simp; rfl) (by omega) (by omega) hz ?_; intro v2 w2 hown2 hg2 hb2)
      go_roundw
      case rel => exact ⟨k + 1, X ++ [(l[k] : Int)], by omega, by omega, by simp; omega, by go_num, by simpa [zcells] using hown2, hb.trans hb2⟩
      case measure => simp [intOf]; omega
    · have hstop : l.length ≤ k ∨ k < l.length ∧ 30 ≤ k := by omega
      clear hgo
      obtain ⟨Ax, cx, rfl, hcx⟩ := own_shape hown
      have hRx := Lib.hid (Row.own hown)
      have hX3 : X.length ≤ 33 := by omega
      replace hb := Lib.hid hb
      clear hown hX
      rcases hstop with hst | ⟨hst, hst2⟩
      all_goals
        obtain ⟨w3, rfl⟩ : ∃ w3 : World, w3 = wr := ⟨_, rfl⟩
        go_wp2_with fail
        go_loopw [38, 8, 9, 11, 50] (fun i _ _ _ _ wr => ∃ j : Nat, j ≤ X.length ∧ i = .int .i64 j ∧ Below w3.heap.size w3 wr) (fun i _ _ _ _ _ => X.length - (intOf i).toNat)
        case atStart => exact ⟨0, Nat.zero_le _, rfl, Below.refl _ _⟩
        case round =>
          obtain ⟨j, hj, rfl, hb3⟩ := hrel
          have hz3 := hb3.size
          rcases Nat.lt_or_eq_of_le hj with hlt | rfl
          · obtain ⟨b, o, rfl, hbb, hcx'⟩ := hRx.out.at1 hlt
            have hcell : wr.cell? ⟨b, o + j, none⟩ = some (.int .i32 X[j]) := (hb3.cell hbb).trans (by rw [hcx' j hlt]; simp [zcells])
            clear hcx'
            obtain ⟨x, hxj⟩ : ∃ x, x = X[j] := ⟨_, rfl⟩
            rw [← hxj] at hcell
            clear hxj
            obtain ⟨w4, rfl⟩ : ∃ w4 : World, w4 = wr := ⟨_, rfl⟩
            have hb4 := Lib.hid (hb3.alloc hz3 (.cells #[.bool (blankB x), .bool (punctB x), .bool (letterB x)] 4))
            rcases kinds4 x with ⟨p1, p2, p3⟩ | ⟨p1, p2, p3⟩ | ⟨p1, p2, p3⟩ | ⟨p1, p2, p3, p4 | ⟨p4, p5⟩ | ⟨p4, p5, p6, p7⟩⟩
            all_goals
              rw [p1, p2, p3] at hb4
              go_wp2_with (first
                | (go_at_call 12; refine (blank_any _ _).mono ?_; rintro e w' ⟨rfl, rfl⟩)
                | (go_at_call 17; refine (punct_any _ _).mono ?_; rintro e w' ⟨rfl, rfl⟩)
                | (go_at_call 18; refine (letter_any _ _).mono ?_; rintro e w' ⟨rfl, rfl⟩))
              go_rounds 4
              all_goals exact ⟨⟨j + 1, by omega, by go_num, hb4.out⟩, by simp [intOf]; omega⟩
          · go_wp2_with fail
            refine (known_any _ (tabs_ext (tabs_ext hT.out hb.out) hb3)).mono ?_
            rintro e w5 ⟨rfl, hb5⟩
            go_wp2
            go_ret
            exact ⟨rfl, (ext_trans (ext_trans hb.out hb3) hb5)⟩
end Go.Proofs.YtlpjpgcdcigihaaDoor
