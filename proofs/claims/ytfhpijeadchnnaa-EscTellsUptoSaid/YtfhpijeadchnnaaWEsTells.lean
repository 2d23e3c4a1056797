/- EscTells: signs are taken as the document says, for any. -/
import Derived.Test.YtfhpijeadchnnaaEsMade
namespace Go.Proofs.Ytfhpijeadchnnaa
open Go.RowKit

set_option maxHeartbeats 8000000 in
set_option maxRecDepth 100000 in
theorem tells_any (l : List UInt8) (at_ : Int) (ks : List UInt8) (A : Option Addr) (c : Nat) (w : World) (h : Row w w.heap.size 1 A ks.length (bcells ks)) (hl : l.length ≤ 500000000) (hk : ks.length ≤ 9223372036854775807) (hT : EsT w) :
    Calls Try.prog 4 #[.string (bs l), .int .i64 at_, .slice A ks.length c] w fun e w' => e = .returned (.bool true) ∧ Below w.heap.size w w' := by
  have hR := Lib.hid h
  replace hT := Lib.hid hT
  clear h
  go_enter Try.func4, Try.ntmps4
  go_wp2_with fail
  go_loopw [7, 8] (fun v j wr => ∃ (t : List UInt8) (i : Nat), i ≤ ks.length ∧ i ≤ 30 ∧ t.length ≤ 2 * i ∧ v = .string (bs t) ∧ j = .int .i64 i ∧ Below w.heap.size w wr) (fun _ j _ => ks.length - (intOf j).toNat)
  case atStart => exact ⟨[], 0, Nat.zero_le _, Nat.zero_le _, Nat.zero_le _, rfl, rfl, Below.refl _ _⟩
  case round =>
    obtain ⟨t, i, hk1, hk2, ht, rfl, rfl, hb⟩ := hrel
    have hz1 := bs_size t
    by_cases hgo : i < ks.length ∧ i < 30
    · obtain ⟨hg1, hg2⟩ := hgo
      obtain ⟨b, o, rfl, hbb, hc⟩ := kcell hR.out (by omega)
      have hx : wr.cell? ⟨b, o + i, none⟩ = some (.int .u8 (ks[i].toNat : Int)) := (hb.cell hbb).trans (hc _ hg1)
      clear hc
      have hbw : b < wr.heap.size := Nat.lt_of_lt_of_le hbb hb.size
      have hend := Lib.hid (show ∀ o, Below w.heap.size w (wr.alloc o) from fun o => hb.trans ((Below.refl _ _).alloc hb.size _))
      have c0 := lit_cat t [92] ⟨#[92]⟩ rfl
      have c1 := lit_cat t [42] ⟨#[42]⟩ rfl
      have c2 := lit_cat t [97] ⟨#[97]⟩ rfl
      have c3 := lit_cat t [195, 169] ⟨#[195, 169]⟩ rfl
      have c4 := lit_cat t [60] ⟨#[60]⟩ rfl
      have c5 := lit_cat t [255] ⟨#[255]⟩ rfl
      have c6 := lit_cat t [34] ⟨#[34]⟩ rfl
      have c7 := lit_cat t [38] ⟨#[38]⟩ rfl
      rcases eight ks[i] with hq | hq | hq | hq | hq | hq | hq | hq
      all_goals
        go_wp2_with fail
        go_roundw
        case rel => exact ⟨_, i + 1, hg1, hg2, by simp; omega, rfl, by go_num, hend.out _⟩
        case measure => simp [intOf]; omega
    · have hstop : ks.length ≤ i ∨ i < ks.length ∧ 30 ≤ i := by omega
      clear hgo
      have hT1 := Lib.hid (est_ext hT.out hb)
      have ha := bs_append l t
      have hz0 := bs_size l
      have h1 : l.length ≤ 1000000000 := by omega
      have h2 : t.length ≤ 1000000000 := by omega
      have h3 : (l ++ t).length ≤ 1000000000 := by rw [List.length_append]; omega
      replace hb := Lib.hid hb
      rcases hstop with hst | ⟨hst, hst2⟩
      all_goals
        go_wp2_with fail
        refine (same_any l _ h1 _ hT1.out).mono ?_
        rintro e w1 ⟨rfl, hb1⟩
        have hT2 := Lib.hid (est_ext hT1.out hb1)
        replace hb1 := Lib.hid (ext_trans hb.out hb1)
        go_wp2_with fail
        refine (same_any t _ h2 _ hT2.out).mono ?_
        rintro e w2 ⟨rfl, hb2⟩
        have hT3 := Lib.hid (est_ext hT2.out hb2)
        replace hb2 := Lib.hid (ext_trans hb1.out hb2)
        go_wp2_with fail
        refine (same_any (l ++ t) _ h3 _ hT3.out).mono ?_
        rintro e w3 ⟨rfl, hb3⟩
        have hT4 := Lib.hid (est_ext hT3.out hb3)
        replace hb3 := Lib.hid (ext_trans hb2.out hb3)
        go_wp2_with fail
        refine (known_any _ hT4.out).mono ?_
        rintro e w4 ⟨rfl, hb4⟩
        go_wp2
        go_ret
        exact ⟨rfl, ext_trans hb3.out hb4⟩

theorem tells_small (l : List UInt8) (at_ : Int) (ks : List UInt8) (A : Option Addr) (c : Nat) (w : World) (_hx : -9223372036854775808 ≤ at_ ∧ at_ ≤ 9223372036854775807) (h : Row w w.heap.size 1 A ks.length (bcells ks)) (_hc : ks.length ≤ c) (hk : l.length + ks.length ≤ 1048576) :
    Calls Try.prog 4 #[.string (bs l), .int .i64 at_, .slice A ks.length c] w fun e w' => e = .returned (.bool true) ∧ Below w.heap.size w w' :=
  tells_any l at_ ks A c w h (by omega) (by omega) trivial
end Go.Proofs.Ytfhpijeadchnnaa
