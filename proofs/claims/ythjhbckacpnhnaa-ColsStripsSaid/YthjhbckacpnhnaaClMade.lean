/- 'made': texts of blanks, tabs and a. -/
import Derived.Test.YthjhbckacpnhnaaClSame
namespace Go.Proofs.Ythjhbckacpnhnaa
open Go.RowKit

/-- made of blanks, tabs and a alone -/
def Cl.ok (l : List UInt8) : Prop := ∀ b ∈ l, b = 32 ∨ b = 9 ∨ b = 97

theorem byte_cell {l : List UInt8} {w : World} {B : Nat} {A : Option Addr} (h : Row w B 1 A l.length (bcells l)) (hn : 0 < l.length) :
    ∃ b o, A = some ⟨b, o, none⟩ ∧ b < B ∧ ∀ k, (hk : k < l.length) → w.cell? ⟨b, o + k, none⟩ = some (.int .u8 (l[k].toNat : Int)) := by
  obtain ⟨b, o, e, hb, hc⟩ := h.at1 hn
  exact ⟨b, o, e, hb, fun k hk => by rw [hc k hk]; simp [bcells, bv]⟩

theorem bits_four (b : UInt8) : bits .and .u8 (b.toNat : Int) 3 = 0 ∨ bits .and .u8 (b.toNat : Int) 3 = 1 ∨ bits .and .u8 (b.toNat : Int) 3 = 2 ∨ bits .and .u8 (b.toNat : Int) 3 = 3 := by
  have hb : b.toNat < 256 := b.toNat_lt
  have h : bits .and .u8 (b.toNat : Int) ((3 : Nat) : Int) = ((b.toNat &&& 3 : Nat) : Int) := u8_and_nat _ _ hb (by omega)
  rw [show ((3 : Nat) : Int) = 3 from rfl] at h
  have h3 : b.toNat &&& 3 = b.toNat % 4 := Nat.and_two_pow_sub_one_eq_mod b.toNat 2
  rw [h, h3]; omega

theorem ok_snoc {l : List UInt8} (h : Cl.ok l) {x : UInt8} (hx : x = 32 ∨ x = 9 ∨ x = 97) : Cl.ok (l ++ [x]) := by
  intro b hb
  rcases List.mem_append.1 hb with hb | hb
  · exact h b hb
  · obtain rfl : b = x := by simpa using hb
    exact hx

set_option maxHeartbeats 4000000 in
set_option maxRecDepth 100000 in
theorem made_any (ks : List UInt8) (A : Option Addr) (c : Nat) (w : World) (h : Row w w.heap.size 1 A ks.length (bcells ks)) (hl : ks.length ≤ 9223372036854775807) :
    Calls Try.prog 9 #[.slice A ks.length c] w fun e w' => (∃ t : List UInt8, e = .returned (.string (bs t)) ∧ t.length ≤ 30 ∧ Cl.ok t) ∧ Below w.heap.size w w' := by
  have hR := Lib.hid h
  clear h
  go_enter Try.func9, Try.ntmps9
  go_wp2_with fail
  go_loopw [3, 4] (fun v i wr => ∃ t : List UInt8, t.length ≤ ks.length ∧ t.length ≤ 30 ∧ Hid (Cl.ok t) ∧ v = .string (bs t) ∧ i = .int .i64 t.length ∧ Below w.heap.size w wr) (fun _ i _ => ks.length - (intOf i).toNat)
  case atStart => exact ⟨[], Nat.zero_le _, Nat.zero_le _, Lib.hid (by intro b hb; cases hb), rfl, rfl, Below.refl _ _⟩
  case round =>
    obtain ⟨t, hk1, hk2, hok, rfl, rfl, hb⟩ := hrel
    have hz1 := bs_size t
    by_cases hgo : t.length < ks.length ∧ t.length < 30
    · obtain ⟨hg1, hg2⟩ := hgo
      obtain ⟨b, o, rfl, hbb, hc⟩ := byte_cell hR.out (by omega)
      have hx : wr.cell? ⟨b, o + t.length, none⟩ = some (.int .u8 (ks[t.length].toNat : Int)) := (hb.cell hbb).trans (hc _ hg1)
      clear hc
      have hbw : b < wr.heap.size := Nat.lt_of_lt_of_le hbb hb.size
      rcases bits_four ks[t.length] with hq | hq | hq | hq
      · go_wp2_with fail
        go_roundw
        case rel => exact ⟨t ++ [32], by simp; omega, by simp; omega, Lib.hid (ok_snoc hok.out (by simp)), by rw [← bs_append]; rfl, by simp, hb.trans ((Below.refl _ _).alloc hb.size _)⟩
        case measure => simp [intOf]; omega
      · go_wp2_with fail
        go_roundw
        case rel => exact ⟨t ++ [9], by simp; omega, by simp; omega, Lib.hid (ok_snoc hok.out (by simp)), by rw [← bs_append]; rfl, by simp, hb.trans ((Below.refl _ _).alloc hb.size _)⟩
        case measure => simp [intOf]; omega
      · go_wp2_with fail
        go_roundw
        case rel => exact ⟨t ++ [32], by simp; omega, by simp; omega, Lib.hid (ok_snoc hok.out (by simp)), by rw [← bs_append]; rfl, by simp, hb.trans ((Below.refl _ _).alloc hb.size _)⟩
        case measure => simp [intOf]; omega
      · go_wp2_with fail
        go_roundw
        case rel => exact ⟨t ++ [97], by simp; omega, by simp; omega, Lib.hid (ok_snoc hok.out (by simp)), by rw [← bs_append]; rfl, by simp, hb.trans ((Below.refl _ _).alloc hb.size _)⟩
        case measure => simp [intOf]; omega
    · have hstop : ks.length ≤ t.length ∨ t.length < ks.length ∧ 30 ≤ t.length := by omega
      clear hgo
      rcases hstop with hst | ⟨hst, hst2⟩
      all_goals
        go_wp2
        go_returns
        exact ⟨⟨t, rfl, hk2, hok.out⟩, hb⟩
end Go.Proofs.Ythjhbckacpnhnaa
