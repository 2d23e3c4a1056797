/- 'made': texts of blanks, tabs, signs and a, by a row of bytes. -/
import Derived.Test.YtcdpecpjhoejnaaDoorFnFns
namespace Go.Proofs.YtcdpecpjhoejnaaDoor
open Go.RowKit

theorem byte_cell {l : List UInt8} {w : World} {B : Nat} {A : Option Addr} (h : Row w B 1 A l.length (bcells l)) (hn : 0 < l.length) :
    ∃ b o, A = some ⟨b, o, none⟩ ∧ b < B ∧ ∀ k, (hk : k < l.length) → w.cell? ⟨b, o + k, none⟩ = some (.int .u8 (l[k].toNat : Int)) := by
  obtain ⟨b, o, e, hb, hc⟩ := h.at1 hn
  exact ⟨b, o, e, hb, fun k hk => by rw [hc k hk]; simp [bcells, bv]⟩

theorem bits_eight (b : UInt8) : bits .and .u8 (b.toNat : Int) 7 = 0 ∨ bits .and .u8 (b.toNat : Int) 7 = 1 ∨ bits .and .u8 (b.toNat : Int) 7 = 2 ∨ bits .and .u8 (b.toNat : Int) 7 = 3 ∨
    bits .and .u8 (b.toNat : Int) 7 = 4 ∨ bits .and .u8 (b.toNat : Int) 7 = 5 ∨ bits .and .u8 (b.toNat : Int) 7 = 6 ∨ bits .and .u8 (b.toNat : Int) 7 = 7 := by
  have hb : b.toNat < 256 := b.toNat_lt
  have h : bits .and .u8 (b.toNat : Int) ((7 : Nat) : Int) = ((b.toNat &&& 7 : Nat) : Int) := u8_and_nat _ _ hb (by omega)
  rw [show ((7 : Nat) : Int) = 7 from rfl] at h
  have h3 : b.toNat &&& 7 = b.toNat % 8 := Nat.and_two_pow_sub_one_eq_mod b.toNat 3
  rw [h, h3]; omega

theorem made_step {t : List UInt8} {i m : Nat} {X : List UInt8} (hX : X.length ≤ 3) (h1 : i < m) (h2 : i < 24) (h : t.length ≤ 3 * i) : i + 1 ≤ m ∧ i + 1 ≤ 24 ∧ (t ++ X).length ≤ 3 * (i + 1) := by
  rw [List.length_append]; omega

set_option maxHeartbeats 4000000 in
set_option maxRecDepth 100000 in
theorem made_any (ks : List UInt8) (A : Option Addr) (c : Nat) (w : World) (h : Row w w.heap.size 1 A ks.length (bcells ks)) (hl : ks.length ≤ 9223372036854775807) :
    Calls Tryd.prog 9 #[.slice A ks.length c] w fun e w' => (∃ t : List UInt8, e = .returned (.string (bs t)) ∧ t.length ≤ 72) ∧ Below w.heap.size w w' := by
  have hR := Lib.hid h
  clear h
  go_enter Tryd.func9, Tryd.ntmps9
  go_wp2_with fail
  go_loopw [3, 4] (fun v j wr => ∃ (t : List UInt8) (i : Nat), i ≤ ks.length ∧ i ≤ 24 ∧ t.length ≤ 3 * i ∧ v = .string (bs t) ∧ j = .int .i64 i ∧ Below w.heap.size w wr) (fun _ j _ => ks.length - (intOf j).toNat)
  case atStart => exact ⟨[], 0, Nat.zero_le _, Nat.zero_le _, Nat.zero_le _, rfl, rfl, Below.refl _ _⟩
  case round =>
    obtain ⟨t, i, hk1, hk2, ht, rfl, rfl, hb⟩ := hrel
    have hz1 := bs_size t
    by_cases hgo : i < ks.length ∧ i < 24
    · obtain ⟨hg1, hg2⟩ := hgo
      obtain ⟨b, o, rfl, hbb, hc⟩ := byte_cell hR.out (by omega)
      have hx : wr.cell? ⟨b, o + i, none⟩ = some (.int .u8 (ks[i].toNat : Int)) := (hb.cell hbb).trans (hc _ hg1)
      clear hc
      have hbw : b < wr.heap.size := Nat.lt_of_lt_of_le hbb hb.size
      have hst := fun X hX => made_step (t := t) (X := X) hX hg1 hg2 ht
      replace hst := Lib.hid hst
      rcases bits_eight ks[i] with hq | hq | hq | hq | hq | hq | hq | hq
      · go_wp2_with fail
        go_roundw
        case rel => exact ⟨t ++ [32], i + 1, (hst.out [32] (by decide)).1, (hst.out [32] (by decide)).2.1, (hst.out [32] (by decide)).2.2, by rw [← bs_append]; rfl, by go_num, hb.trans ((Below.refl _ _).alloc hb.size _)⟩
        case measure => simp [intOf]; omega
      · go_wp2_with fail
        go_roundw
        case rel => exact ⟨t ++ [9], i + 1, (hst.out [9] (by decide)).1, (hst.out [9] (by decide)).2.1, (hst.out [9] (by decide)).2.2, by rw [← bs_append]; rfl, by go_num, hb.trans ((Below.refl _ _).alloc hb.size _)⟩
        case measure => simp [intOf]; omega
      · go_wp2_with fail
        go_roundw
        case rel => exact ⟨t ++ [96], i + 1, (hst.out [96] (by decide)).1, (hst.out [96] (by decide)).2.1, (hst.out [96] (by decide)).2.2, by rw [← bs_append]; rfl, by go_num, hb.trans ((Below.refl _ _).alloc hb.size _)⟩
        case measure => simp [intOf]; omega
      · go_wp2_with fail
        go_roundw
        case rel => exact ⟨t ++ [96, 96, 96], i + 1, (hst.out [96, 96, 96] (by decide)).1, (hst.out [96, 96, 96] (by decide)).2.1, (hst.out [96, 96, 96] (by decide)).2.2, by rw [← bs_append]; rfl, by go_num, hb.trans ((Below.refl _ _).alloc hb.size _)⟩
        case measure => simp [intOf]; omega
      · go_wp2_with fail
        go_roundw
        case rel => exact ⟨t ++ [126], i + 1, (hst.out [126] (by decide)).1, (hst.out [126] (by decide)).2.1, (hst.out [126] (by decide)).2.2, by rw [← bs_append]; rfl, by go_num, hb.trans ((Below.refl _ _).alloc hb.size _)⟩
        case measure => simp [intOf]; omega
      · go_wp2_with fail
        go_roundw
        case rel => exact ⟨t ++ [126, 126, 126], i + 1, (hst.out [126, 126, 126] (by decide)).1, (hst.out [126, 126, 126] (by decide)).2.1, (hst.out [126, 126, 126] (by decide)).2.2, by rw [← bs_append]; rfl, by go_num, hb.trans ((Below.refl _ _).alloc hb.size _)⟩
        case measure => simp [intOf]; omega
      · go_wp2_with fail
        go_roundw
        case rel => exact ⟨t ++ [97], i + 1, (hst.out [97] (by decide)).1, (hst.out [97] (by decide)).2.1, (hst.out [97] (by decide)).2.2, by rw [← bs_append]; rfl, by go_num, hb.trans ((Below.refl _ _).alloc hb.size _)⟩
        case measure => simp [intOf]; omega
      · go_wp2_with fail
        go_roundw
        case rel => exact ⟨t ++ [96], i + 1, (hst.out [96] (by decide)).1, (hst.out [96] (by decide)).2.1, (hst.out [96] (by decide)).2.2, by rw [← bs_append]; rfl, by go_num, hb.trans ((Below.refl _ _).alloc hb.size _)⟩
        case measure => simp [intOf]; omega
    · have hstop : ks.length ≤ i ∨ i < ks.length ∧ 24 ≤ i := by omega
      have hfin : t.length ≤ 72 := by omega
      clear hgo
      rcases hstop with hst | ⟨hst, hst2⟩
      all_goals
        go_wp2
        go_returns
        exact ⟨⟨t, rfl, hfin⟩, hb⟩
end Go.Proofs.YtcdpecpjhoejnaaDoor
