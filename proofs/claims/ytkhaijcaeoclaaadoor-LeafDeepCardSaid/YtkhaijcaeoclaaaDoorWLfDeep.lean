/- LeafDeep: what is four columns deep is none of them; up to three it is what it is. -/
import Derived.Test.YtkhaijcaeoclaaaDoorLfDeepM
import Derived.Test.YtkhaijcaeoclaaaDoorLfProg
import Derived.Test.YtkhaijcaeoclaaaDoorLfKnown
import Derived.Test.YtkhaijcaeoclaaaDoorBit64
import Derived.Deep.DeepCutAuto
import Derived.ProofKit
namespace Go.Proofs.YtkhaijcaeoclaaaDoor
open Go.RowKit

theorem seven_ways (b : UInt8) : (b.toNat % 7 = 0) ∨ (b.toNat % 7 = 1) ∨ (b.toNat % 7 = 2) ∨ (b.toNat % 7 = 3) ∨ (b.toNat % 7 = 4) ∨ (b.toNat % 7 = 5) ∨ (b.toNat % 7 = 6) := by omega
theorem blanks_cut {i : Nat} (h : i ≤ 3) : (⟨#[32, 32, 32]⟩ : ByteArray).extract 0 i = bs (List.replicate i 32) := by
  rcases (show i = 0 ∨ i = 1 ∨ i = 2 ∨ i = 3 from by omega) with rfl | rfl | rfl | rfl <;> decide

set_option maxHeartbeats 8000000 in
set_option maxRecDepth 100000 in
theorem deep_any (ks : List UInt8) (A : Option Addr) (c : Nat) (n : Int) (w : World) (hR : Row w w.heap.size 1 A ks.length (bcells ks)) (hkm : ks.length ≤ 9223372036854775807) :
    Calls Tryd.prog 6 #[.slice A ks.length c, .int .i64 n] w fun e w' => e = .returned (.bool true) ∧ Below w.heap.size w w' := by
  replace hR := Lib.hid hR
  go_enter Tryd.func6, Tryd.ntmps6
  go_upto_if 36 with fail
  go_cut [5] (fun v wx => ∃ s, s ∈ Lf.eight ∧ v = .string (bs s) ∧ Below w.heap.size w wx)
  case first =>
    rcases ks with _ | ⟨b, r⟩
    · go_wp2_with fail
      go_meet
      case rel => exact ⟨[120], by decide, rfl, Below.refl _ _⟩
    · obtain ⟨ab, ao, rfl, hbb, hc⟩ := hR.out.at1 (show 0 < (b :: r).length by simp)
      have hx : w.cell? ⟨ab, ao + 0, none⟩ = some (.int .u8 (b.toNat : Int)) := (hc 0 (by simp)).trans (by simp [bcells, bv])
      rw [Nat.add_zero] at hx
      have hz0 : (0 : Int) < ((b :: r).length : Int) := by simp
      have hBa := fun o => Lib.hid (ext_alloc w o)
      clear hc
      have hsv := seven_ways b
      have hb256 : b.toNat < 256 := b.toNat_lt
      obtain ⟨x, hxb⟩ : ∃ x, b.toNat = x := ⟨_, rfl⟩
      rw [hxb] at hx hsv hb256
      clear hxb
      rcases hsv with h | h | h | h | h | h | h
      all_goals
        go_wp2_with fail
        go_meet
        case rel => first
          | exact ⟨[35, 32, 97], by decide, rfl, (hBa _).out⟩
          | exact ⟨[45, 45, 45], by decide, rfl, (hBa _).out⟩
          | exact ⟨[62, 32, 98], by decide, rfl, (hBa _).out⟩
          | exact ⟨[45, 32, 99], by decide, rfl, (hBa _).out⟩
          | exact ⟨[42, 42, 42], by decide, rfl, (hBa _).out⟩
          | exact ⟨[42, 32, 100], by decide, rfl, (hBa _).out⟩
          | exact ⟨[35, 35], by decide, rfl, (hBa _).out⟩
  case rest =>
    obtain ⟨s, hs, rfl, hB⟩ := hcut
    replace hB := Lib.hid hB
    obtain ⟨i, hi, hi3⟩ : ∃ i : Nat, bits .and .i64 n 3 = (i : Int) ∧ i ≤ 3 := ⟨(n % 4).toNat, by rw [i64_and3]; omega, by omega⟩
    have hex := blanks_cut hi3
    have hsl := Lf.eight_len hs
    obtain ⟨⟨f1, f2, f3, f4⟩, g1, g2, g3, g4⟩ := Lf.deep_facts hi3 hs
    have zI := bs_size (List.replicate i 32)
    rw [List.length_replicate] at zI
    have zS := bs_size s
    have a1 := bs_append (List.replicate i 32) s
    have a2 : (⟨#[32, 32, 32, 32]⟩ : ByteArray) ++ bs s = bs ([32, 32, 32, 32] ++ s) := bs_append [32, 32, 32, 32] s
    have a3 : (⟨#[9]⟩ : ByteArray) ++ bs s = bs ([9] ++ s) := bs_append [9] s
    have a4 : (⟨#[32, 32, 9]⟩ : ByteArray) ++ bs s = bs ([32, 32, 9] ++ s) := bs_append [32, 32, 9] s
    have m1 : ¬ 9223372036854775807 < i + s.length := by omega
    have m2 : ¬ 9223372036854775807 < 4 + s.length := by omega
    have m3 : ¬ 9223372036854775807 < 1 + s.length := by omega
    have m4 : ¬ 9223372036854775807 < 3 + s.length := by omega
    have pI := fun w => phead_any (List.replicate i 32 ++ s) w (by simp; omega)
    have pS := fun w => phead_any s w (by omega)
    have qI := fun w => pquote_any (List.replicate i 32 ++ s) w (by simp; omega)
    have qS := fun w => pquote_any s w (by omega)
    have iI := fun w => pitem_any (List.replicate i 32 ++ s) w (by simp; omega)
    have iS := fun w => pitem_any s w (by omega)
    have bI := fun w => pbrk_any (List.replicate i 32 ++ s) w (by simp; omega)
    have bS := fun w => pbrk_any s w (by omega)
    have p4 := fun w => phead_any ([32, 32, 32, 32] ++ s) w (by simp; omega)
    have q1 := fun w => pquote_any ([9] ++ s) w (by simp; omega)
    have i4 := fun w => pitem_any ([32, 32, 32, 32] ++ s) w (by simp; omega)
    have b3 := fun w => pbrk_any ([32, 32, 9] ++ s) w (by simp; omega)
    rw [f1] at pI
    rw [f2] at qI
    rw [f3] at bI
    rw [f4] at iI
    rw [g1] at p4
    rw [g2] at q1
    rw [g3] at i4
    rw [g4] at b3
    simp only [headv, quotev, itemv] at p4 q1 i4
    obtain ⟨h1, h2, h3, hv⟩ := headv_form (Lf.heading s)
    rw [hv] at pI pS
    obtain ⟨t2, ok2, hv2⟩ := quotev_form (Lf.quote s)
    rw [hv2] at qI qS
    obtain ⟨B, hBr⟩ : ∃ B, Lf.brk s = B := ⟨_, rfl⟩
    rw [hBr] at bI bS
    obtain ⟨X1, hX1⟩ : ∃ X, List.replicate i 32 ++ s = X := ⟨_, rfl⟩
    obtain ⟨X2, hX2⟩ : ∃ X, [32, 32, 32, 32] ++ s = X := ⟨_, rfl⟩
    obtain ⟨X3, hX3⟩ : ∃ X, [9] ++ s = X := ⟨_, rfl⟩
    obtain ⟨X4, hX4⟩ : ∃ X, [32, 32, 9] ++ s = X := ⟨_, rfl⟩
    obtain ⟨Y, hY⟩ : ∃ Y, List.replicate i (32 : UInt8) = Y := ⟨_, rfl⟩
    have hYl : True := trivial
    rw [hX1] at a1 pI qI iI bI
    rw [hX2] at a2 p4 i4
    rw [hX3] at a3 q1
    rw [hX4] at a4 b3
    rw [hY] at hex zI a1
    clear hX1 hX2 hX3 hX4 hY f1 f2 f3 f4 g1 g2 g3 g4 hv hv2 hBr hYl
    have hit : (Lf.item s = none) ∨ ∃ ic ik it, Lf.item s = some (ic, ik, it) ∧ ik ≤ 8 := by
      cases hI : Lf.item s with
      | none => exact .inl rfl
      | some x =>
        obtain ⟨ic, ik, it⟩ := x
        exact .inr ⟨ic, ik, it, rfl, (Lf.item_sign hI).2.2.2.2⟩
    rcases hit with hI | ⟨ic, ik, it, hI, hik⟩
    · rw [hI] at iI iS
      clear hI hs
      simp only [Option.map_none, itemv] at iI iS
      go_wp2_with fail
      refine (pI _).mono ?_
      rintro e w1 ⟨rfl, hb1⟩
      have hB1 := Lib.hid (ext_trans hB.out hb1)
      clear hb1 hB pI
      go_wp2_with fail
      refine (pS _).mono ?_
      rintro e w2 ⟨rfl, hb2⟩
      have hB2 := Lib.hid (ext_trans hB1.out hb2)
      clear hb2 hB1 pS
      go_wp2_with fail
      refine (qI _).mono ?_
      rintro e w3 ⟨rfl, hb3⟩
      have hB3 := Lib.hid (ext_trans hB2.out hb3)
      clear hb3 hB2 qI
      go_wp2_with fail
      refine (qS _).mono ?_
      rintro e w4 ⟨rfl, hb4⟩
      have hB4 := Lib.hid (ext_trans hB3.out hb4)
      clear hb4 hB3 qS
      go_wp2_with fail
      refine (iI _).mono ?_
      rintro e w5 ⟨rfl, hb5⟩
      have hB5 := Lib.hid (ext_trans hB4.out hb5)
      clear hb5 hB4 iI
      go_wp2_with fail
      refine (iS _).mono ?_
      rintro e w6 ⟨rfl, hb6⟩
      have hB6 := Lib.hid (ext_trans hB5.out hb6)
      clear hb6 hB5 iS
      go_wp2_with fail
      refine (p4 _).mono ?_
      rintro e w7 ⟨rfl, hb7⟩
      have hB7 := Lib.hid (ext_trans hB6.out hb7)
      clear hb7 hB6 p4
      go_wp2_with fail
      refine (q1 _).mono ?_
      rintro e w8 ⟨rfl, hb8⟩
      have hB8 := Lib.hid (ext_trans hB7.out hb8)
      clear hb8 hB7 q1
      go_wp2_with fail
      refine (i4 _).mono ?_
      rintro e w9 ⟨rfl, hb9⟩
      have hB9 := Lib.hid (ext_trans hB8.out hb9)
      clear hb9 hB8 i4
      go_wp2_with fail
      refine (bI _).mono ?_
      rintro e w10 ⟨rfl, hb10⟩
      have hB10 := Lib.hid (ext_trans hB9.out hb10)
      clear hb10 hB9 bI
      go_wp2_with fail
      refine (bS _).mono ?_
      rintro e w11 ⟨rfl, hb11⟩
      have hB11 := Lib.hid (ext_trans hB10.out hb11)
      clear hb11 hB10 bS
      go_wp2_with fail
      refine (b3 _).mono ?_
      rintro e w12 ⟨rfl, hb12⟩
      have hB12 := Lib.hid (ext_trans hB11.out hb12)
      clear hb12 hB11 b3
      go_wp2_with fail
      refine (known_fn _).mono ?_
      rintro e w13 ⟨rfl, hb13⟩
      have hB13 := Lib.hid (ext_trans hB12.out hb13)
      clear hb13 hB12
      go_wp2_with fail
      go_returns
      exact ⟨rfl, hB13.out⟩
    · rw [hI] at iI iS
      clear hI hs
      simp only [Option.map_some, itemv] at iI iS
      have hk1 : ((ik + i : Nat) : Int) = (ik : Int) + (i : Int) := by omega
      rw [hk1] at iI
      go_wp2_with fail
      refine (pI _).mono ?_
      rintro e w1 ⟨rfl, hb1⟩
      have hB1 := Lib.hid (ext_trans hB.out hb1)
      clear hb1 hB pI
      go_wp2_with fail
      refine (pS _).mono ?_
      rintro e w2 ⟨rfl, hb2⟩
      have hB2 := Lib.hid (ext_trans hB1.out hb2)
      clear hb2 hB1 pS
      go_wp2_with fail
      refine (qI _).mono ?_
      rintro e w3 ⟨rfl, hb3⟩
      have hB3 := Lib.hid (ext_trans hB2.out hb3)
      clear hb3 hB2 qI
      go_wp2_with fail
      refine (qS _).mono ?_
      rintro e w4 ⟨rfl, hb4⟩
      have hB4 := Lib.hid (ext_trans hB3.out hb4)
      clear hb4 hB3 qS
      go_wp2_with fail
      refine (iI _).mono ?_
      rintro e w5 ⟨rfl, hb5⟩
      have hB5 := Lib.hid (ext_trans hB4.out hb5)
      clear hb5 hB4 iI
      go_wp2_with fail
      refine (iS _).mono ?_
      rintro e w6 ⟨rfl, hb6⟩
      have hB6 := Lib.hid (ext_trans hB5.out hb6)
      clear hb6 hB5 iS
      go_wp2_with fail
      refine (p4 _).mono ?_
      rintro e w7 ⟨rfl, hb7⟩
      have hB7 := Lib.hid (ext_trans hB6.out hb7)
      clear hb7 hB6 p4
      go_wp2_with fail
      refine (q1 _).mono ?_
      rintro e w8 ⟨rfl, hb8⟩
      have hB8 := Lib.hid (ext_trans hB7.out hb8)
      clear hb8 hB7 q1
      go_wp2_with fail
      refine (i4 _).mono ?_
      rintro e w9 ⟨rfl, hb9⟩
      have hB9 := Lib.hid (ext_trans hB8.out hb9)
      clear hb9 hB8 i4
      go_wp2_with fail
      refine (bI _).mono ?_
      rintro e w10 ⟨rfl, hb10⟩
      have hB10 := Lib.hid (ext_trans hB9.out hb10)
      clear hb10 hB9 bI
      go_wp2_with fail
      refine (bS _).mono ?_
      rintro e w11 ⟨rfl, hb11⟩
      have hB11 := Lib.hid (ext_trans hB10.out hb11)
      clear hb11 hB10 bS
      go_wp2_with fail
      refine (b3 _).mono ?_
      rintro e w12 ⟨rfl, hb12⟩
      have hB12 := Lib.hid (ext_trans hB11.out hb12)
      clear hb12 hB11 b3
      go_wp2_with fail
      refine (known_fn _).mono ?_
      rintro e w13 ⟨rfl, hb13⟩
      have hB13 := Lib.hid (ext_trans hB12.out hb13)
      clear hb13 hB12
      go_wp2_with fail
      go_returns
      exact ⟨rfl, hB13.out⟩
end Go.Proofs.YtkhaijcaeoclaaaDoor
