/- The law's own comparison of the program with the document's answer; the closed runs; texts of four signs by a row of bytes. -/
import Derived.Test.YtmfhibiedjmhiaaCdProg
import Derived.Deep.QuietTactic
import Derived.BigQuiet
namespace Go.Proofs.Ytmfhibiedjmhiaa
open Go.RowKit

theorem spanV_three (o : Option (List UInt8 × Nat)) : ∃ (x : List UInt8) (n : Nat) (b : Bool), spanV o = .tuple #[.string (bs x), .int .i64 (n : Int), .bool b] := by
  cases o with
  | none => exact ⟨[], 0, false, rfl⟩
  | some r => exact ⟨r.1, r.2, true, rfl⟩

set_option maxHeartbeats 4000000 in
set_option maxRecDepth 100000 in
theorem same_any (l : List UInt8) (at_ : Int) (hs : l.length ≤ 140737488351232) (w : World) :
    Calls Try.prog 8 #[.string (bs l), .int .i64 at_] w fun e w' => e = .returned (.bool true) ∧ Below w.heap.size w w' := by
  obtain ⟨x, n, o, hV⟩ := spanV_three (Cd.span l at_)
  have q1 := fun w => cspan_any l at_ hs w
  have q2 := fun w => rspan_any l at_ (by omega) w
  rw [hV] at q1 q2
  clear hV
  go_enter Try.func8, Try.ntmps8
  go_wp2_with fail
  refine (q1 _).mono ?_
  rintro e w1 ⟨rfl, hb1⟩
  go_wp2_with fail
  refine (q2 _).mono ?_
  rintro e w2 ⟨rfl, rfl⟩
  clear q1 q2
  go_wp2_with fail
  refine (cclean_any l _ hs).mono ?_
  rintro e w3 ⟨rfl, hb3⟩
  replace hb3 := ext_trans hb1 hb3
  clear hb1
  go_wp2_with fail
  refine (rclean_any l _ (by omega)).mono ?_
  rintro e w4 ⟨rfl, rfl⟩
  go_wp2
  go_ret
  exact ⟨rfl, hb3⟩

theorem span_at (l : List UInt8) (s : ByteArray) (a : Int) (o : Option (List UInt8 × Nat)) (v : Value) (hs : bs l = s) (h : Cd.span l a = o) (hv : spanV o = v) (hl : l.length ≤ 140737488351232) (w : World) :
    Calls Try.prog 13 #[.string s, .int .i64 a] w fun e w' => e = .returned v ∧ Below w.heap.size w w' := by
  subst hs h hv; exact cspan_any l a hl w
theorem clean_at (l m : List UInt8) (s t : ByteArray) (hs : bs l = s) (h : Cd.clean l = m) (ht : bs m = t) (hl : l.length ≤ 140737488351232) (w : World) :
    Calls Try.prog 15 #[.string s] w fun e w' => e = .returned (.string t) ∧ Below w.heap.size w w' := by
  subst hs h ht; exact cclean_any l w hl
theorem run_at_lit (l : List UInt8) (s : ByteArray) (a : Int) (c : UInt8) (i r : Int) (hs : bs l = s) (hc : (c.toNat : Int) = i) (hr : ((runV c l a : Nat) : Int) = r) (hl : l.length ≤ 140737488351232) (ha : a ≤ 9223372036854775807) (w : World) :
    Calls Try.prog 9 #[.string s, .int .i64 a, .int .u8 i] w fun e w' => e = .returned (.int .i64 r) ∧ w = w' := by
  subst hs hc hr; exact crun_of l a c w hl ha

set_option maxHeartbeats 4000000 in
set_option maxRecDepth 100000 in
theorem known_any (w : World) :
    Calls Try.prog 11 #[] w fun e w' => e = .returned (.bool true) ∧ Below w.heap.size w w' := by
  have q1 := span_at [120, 96, 96, 32, 97, 96, 98, 32, 96, 96] ⟨#[120, 96, 96, 32, 97, 96, 98, 32, 96, 96]⟩ 1 (some ([97, 96, 98], 10)) (.tuple #[.string ⟨#[97, 96, 98]⟩, .int .i64 10, .bool true]) rfl (by kernel_rfl) rfl (by decide)
  have q2 := span_at [96, 97] ⟨#[96, 97]⟩ 0 none (.tuple #[.string ⟨#[]⟩, .int .i64 0, .bool false]) rfl (by kernel_rfl) rfl (by decide)
  have q3 := span_at [96, 96, 97, 96, 96] ⟨#[96, 96, 97, 96, 96]⟩ 1 none (.tuple #[.string ⟨#[]⟩, .int .i64 0, .bool false]) rfl (by kernel_rfl) rfl (by decide)
  have q4 := clean_at [32] [32] ⟨#[32]⟩ ⟨#[32]⟩ rfl (by kernel_rfl) rfl (by decide)
  have q5 := clean_at [32, 97, 10] [97] ⟨#[32, 97, 10]⟩ ⟨#[97]⟩ rfl (by kernel_rfl) rfl (by decide)
  have q6 := run_at_lit [97, 97, 98, 98] ⟨#[97, 97, 98, 98]⟩ 0 97 97 2 rfl rfl (by kernel_rfl) (by decide) (by omega)
  have q7 := run_at_lit [97] ⟨#[97]⟩ 5 97 97 0 rfl rfl (by kernel_rfl) (by decide) (by omega)
  have q8 := run_at_lit [97] ⟨#[97]⟩ (-1) 97 97 0 rfl rfl (by kernel_rfl) (by decide) (by omega)
  go_enter Try.func11, Try.ntmps11
  go_wp2_with fail
  refine (q1 _).mono ?_
  rintro e w1 ⟨rfl, hb1⟩
  go_wp2_with fail
  refine (q2 _).mono ?_
  rintro e w2 ⟨rfl, hb2⟩
  replace hb2 := ext_trans hb1 hb2
  clear hb1
  go_wp2_with fail
  refine (q3 _).mono ?_
  rintro e w3 ⟨rfl, hb3⟩
  replace hb3 := ext_trans hb2 hb3
  clear hb2 q1 q2 q3
  go_wp2_with fail
  refine (q4 _).mono ?_
  rintro e w4 ⟨rfl, hb4⟩
  replace hb4 := ext_trans hb3 hb4
  clear hb3
  go_wp2_with fail
  refine (q5 _).mono ?_
  rintro e w5 ⟨rfl, hb5⟩
  replace hb5 := ext_trans hb4 hb5
  clear hb4
  go_wp2_with fail
  refine (q6 _).mono ?_
  rintro e w6 ⟨rfl, rfl⟩
  go_wp2_with fail
  refine (q7 _).mono ?_
  rintro e w7 ⟨rfl, rfl⟩
  go_wp2_with fail
  refine (q8 _).mono ?_
  rintro e w8 ⟨rfl, rfl⟩
  go_wp2
  go_ret
  exact ⟨rfl, hb5⟩

theorem kcell9 {l : List UInt8} {w : World} {B : Nat} {A : Option Addr} (h : Row w B 1 A l.length (bcells l)) (hn : 0 < l.length) :
    ∃ b o, A = some ⟨b, o, none⟩ ∧ b < B ∧ ∀ k, (hk : k < l.length) → w.cell? ⟨b, o + k, none⟩ = some (.int .u8 (l[k].toNat : Int)) := by
  obtain ⟨b, o, e, hb, hc⟩ := h.at1 hn
  exact ⟨b, o, e, hb, fun k hk => by rw [hc k hk]; simp [bcells, bv]⟩
/-- the four signs by a byte's last two bits -/
def sg (b : UInt8) : UInt8 := [96, 32, 97, 10].getD (b.toNat % 4) 0
def made9 (ks : List UInt8) : List UInt8 := (ks.take 24).map sg
theorem made9_len (ks : List UInt8) : (made9 ks).length ≤ 24 := by unfold made9; rw [List.length_map, List.length_take]; omega
theorem four_bits (b : UInt8) : (bits .and .u8 (b.toNat : Int) 3 = 0 ∧ sg b = 96) ∨ (bits .and .u8 (b.toNat : Int) 3 = 1 ∧ sg b = 32) ∨ (bits .and .u8 (b.toNat : Int) 3 = 2 ∧ sg b = 97) ∨ (bits .and .u8 (b.toNat : Int) 3 = 3 ∧ sg b = 10) := by
  have hb : b.toNat < 256 := b.toNat_lt
  have h : bits .and .u8 (b.toNat : Int) ((3 : Nat) : Int) = ((b.toNat &&& 3 : Nat) : Int) := u8_and_nat _ _ hb (by omega)
  rw [show ((3 : Nat) : Int) = 3 from rfl] at h
  have h3 : b.toNat &&& 3 = b.toNat % 4 := Nat.and_two_pow_sub_one_eq_mod b.toNat 2
  rw [h, h3]
  unfold sg
  rcases (show b.toNat % 4 = 0 ∨ b.toNat % 4 = 1 ∨ b.toNat % 4 = 2 ∨ b.toNat % 4 = 3 by omega) with h | h | h | h <;> rw [h] <;> simp

set_option maxHeartbeats 4000000 in
set_option maxRecDepth 100000 in
theorem made_any (ks : List UInt8) (A : Option Addr) (c : Nat) (w : World) (h : Row w w.heap.size 1 A ks.length (bcells ks)) (hl : ks.length ≤ 9223372036854775807) :
    Calls Try.prog 7 #[.slice A ks.length c] w fun e w' => e = .returned (.string (bs (made9 ks))) ∧ Below w.heap.size w w' := by
  have hR := Lib.hid h
  clear h
  go_enter Try.func7, Try.ntmps7
  go_wp2_with fail
  go_loopw [3, 4] (fun v j wr => ∃ (t : List UInt8) (i : Nat), i ≤ ks.length ∧ i ≤ 24 ∧ t.length ≤ i ∧ v = .string (bs t) ∧ j = .int .i64 i ∧ Hid (t = (ks.take i).map sg) ∧ Below w.heap.size w wr) (fun _ j _ => ks.length - (intOf j).toNat)
  case atStart => exact ⟨[], 0, Nat.zero_le _, Nat.zero_le _, Nat.zero_le _, rfl, rfl, Lib.hid rfl, Below.refl _ _⟩
  case round =>
    obtain ⟨t, i, hk1, hk2, ht, rfl, rfl, hm, hb⟩ := hrel
    have hz1 := bs_size t
    by_cases hgo : i < ks.length ∧ i < 24
    · obtain ⟨hg1, hg2⟩ := hgo
      obtain ⟨b, o, rfl, hbb, hc⟩ := kcell9 hR.out (by omega)
      have hx : wr.cell? ⟨b, o + i, none⟩ = some (.int .u8 (ks[i].toNat : Int)) := (hb.cell hbb).trans (hc _ hg1)
      clear hc
      have hx1 : wr.drew.cell? ⟨b, o + i, none⟩ = some (.int .u8 (ks[i].toNat : Int)) := hx
      have hbw : b < wr.heap.size := Nat.lt_of_lt_of_le hbb hb.size
      have e0 : Hid ((⟨#[96, 32, 97, 10]⟩ : ByteArray).extract 0 1 = bs [96]) := Lib.hid rfl
      have e1 : Hid ((⟨#[96, 32, 97, 10]⟩ : ByteArray).extract 1 2 = bs [32]) := Lib.hid rfl
      have e2 : Hid ((⟨#[96, 32, 97, 10]⟩ : ByteArray).extract 2 3 = bs [97]) := Lib.hid rfl
      have e3 : Hid ((⟨#[96, 32, 97, 10]⟩ : ByteArray).extract 3 4 = bs [10]) := Lib.hid rfl
      have hcat : ∀ x : UInt8, bs t ++ bs [x] = bs (t ++ [x]) := fun x => bs_append t [x]
      have hm2 : Hid ((ks.take (i + 1)).map sg = t ++ [sg ks[i]]) := Lib.hid (by rw [List.take_succ_eq_append_getElem hg1, List.map_append, ← hm.out]; rfl)
      rcases four_bits ks[i] with ⟨hq, hs⟩ | ⟨hq, hs⟩ | ⟨hq, hs⟩ | ⟨hq, hs⟩
      all_goals
        rw [hs] at hm2
        clear hs
        go_wp2_with fail
        go_quiet (fail)
        go_wp2_with fail
        go_roundw
        case rel => first | exact ⟨t ++ [96], i + 1, hg1, hg2, by simp; omega, by rw [e0.out, hcat], by go_num, Lib.hid hm2.out.symm, below_drewN hb _⟩ | exact ⟨t ++ [32], i + 1, hg1, hg2, by simp; omega, by rw [e1.out, hcat], by go_num, Lib.hid hm2.out.symm, below_drewN hb _⟩ | exact ⟨t ++ [97], i + 1, hg1, hg2, by simp; omega, by rw [e2.out, hcat], by go_num, Lib.hid hm2.out.symm, below_drewN hb _⟩ | exact ⟨t ++ [10], i + 1, hg1, hg2, by simp; omega, by rw [e3.out, hcat], by go_num, Lib.hid hm2.out.symm, below_drewN hb _⟩
        case measure => simp [intOf]; omega
    · have hstop : ks.length ≤ i ∨ i < ks.length ∧ 24 ≤ i := by omega
      have hfin : Hid (t = made9 ks) := Lib.hid (by
        rw [hm.out]; unfold made9
        rcases hstop with hst | ⟨_, hst⟩
        · rw [List.take_of_length_le (show ks.length ≤ i from hst), List.take_of_length_le (by omega)]
        · rw [show i = 24 by omega])
      clear hgo hm
      rcases hstop with hst | ⟨hst, hst2⟩
      all_goals
        go_wp2
        go_returns
        exact ⟨(show _ = Ending.returned (Value.string (bs t)) from rfl).trans (by rw [hfin.out]), hb⟩
end Go.Proofs.Ytmfhibiedjmhiaa
