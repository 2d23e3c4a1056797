/- RunesNumbers: the chapter's runs, each rune up to 12400, each byte between others. -/
import Derived.Test.YtlpjpgcdcigihaaDoorRnKnown
namespace Go.Proofs.YtlpjpgcdcigihaaDoor
open Go.RowKit

theorem text_cell {w : World} {B n : Nat} {A : Option Addr} {L : List (List UInt8)} (h : Row w B 1 A n (scells L)) (hn : 0 < n) :
    ∃ b o, A = some ⟨b, o, none⟩ ∧ b < B ∧ ∀ j (hj : j < L.length), w.cell? ⟨b, o + j, none⟩ = some (.string (bs L[j])) := by
  obtain ⟨b, o, e, hb, hc⟩ := h.2 hn
  exact ⟨b, o, e, hb, fun j hj => hc j _ (by simp [scells, List.getElem?_eq_getElem hj])⟩

/-- a byte between others -/
def seven (x : UInt8) : List (List UInt8) := [[x], [97, x], [x, 66], [65, x, x, 66], [195, 169, x], [x, 128], [228, 184, x]]
theorem seven_len (x : UInt8) : (seven x).length = 7 := rfl
theorem seven_small (x : UInt8) : ∀ l ∈ seven x, l.length ≤ 1000000000 := by
  intro l hl
  simp only [seven, List.mem_cons, List.not_mem_nil, or_false] at hl
  rcases hl with rfl | rfl | rfl | rfl | rfl | rfl | rfl <;> simp

set_option maxHeartbeats 8000000 in
set_option maxRecDepth 100000 in
theorem numbers_law (w : World) (hT : Tabs w) :
    Calls Tryd.prog 3 #[] w fun e w' => e = .returned (.bool true) ∧ Below w.heap.size w w' := by
  replace hT := Lib.hid hT
  go_enter Tryd.func3, Tryd.ntmps3
  go_wp2_with fail
  go_loop [1] (fun r => ∃ z : Int, -2 ≤ z ∧ z ≤ 12400 ∧ r = .int .i32 z) (fun r => (12400 - intOf r).toNat)
  case atStart => exact ⟨-2, by omega, by omega, rfl⟩
  case round =>
    obtain ⟨z, hz1, hz2, rfl⟩ := hrel
    by_cases hlt : z < 12400
    · go_wp2_with (go_at_call 8; refine (kinds_any _ _).mono ?_; rintro e w' ⟨rfl, rfl⟩)
      go_round
      case rel => exact ⟨z + 1, by omega, by omega, by go_num⟩
      case measure => simp [intOf]; omega
    · go_wp2_with fail
      go_loopw [2, 3, 5, 39] (fun i _ _ _ wr => ∃ k : Nat, k ≤ 256 ∧ i = .int .i64 k ∧ Below w.heap.size w wr) (fun i _ _ _ _ => 256 - (intOf i).toNat)
      case atStart => exact ⟨0, by omega, rfl, Below.refl _ _⟩
      case round =>
        obtain ⟨k, hk, rfl, hb⟩ := hrel
        rcases Nat.lt_or_eq_of_le hk with hkl | rfl
        · have hz := hb.size
          obtain ⟨x, hx⟩ : ∃ x : UInt8, x.toNat = k := ⟨UInt8.ofNat k, by simp; omega⟩
          have hwk : IntKind.u8.wrap (k : Int) = k := by
            unfold IntKind.wrap; simp [IntKind.bits, IntKind.signed]; omega
          have hrow : Row (wr.alloc (.cells #[.int .u8 (k : Int)] 5)) (wr.alloc (.cells #[.int .u8 (k : Int)] 5)).heap.size 1 (some ⟨wr.heap.size, 0, none⟩) 1 (bcells [x]) :=
            Row.fresh wr 5 #[.int .u8 (k : Int)] (0, 0) rfl (by simp [bcells, bv, hx])
          have hcv := run_text (c := 1) hrow 23 5 9 Tryd.underlying23 Tryd.underlying5 Tryd.underlying9
          replace hx := Lib.hid hx
          clear hrow
          have a1 : (⟨#[97]⟩ : ByteArray) ++ bs [x] = bs [97, x] := bs_append [97] [x]
          have a2 : bs [x] ++ (⟨#[66]⟩ : ByteArray) = bs [x, 66] := bs_append [x] [66]
          have a3 : (⟨#[65]⟩ : ByteArray) ++ bs [x] = bs [65, x] := bs_append [65] [x]
          have a4 : bs [65, x] ++ bs [x] = bs [65, x, x] := bs_append [65, x] [x]
          have a5 : bs [65, x, x] ++ (⟨#[66]⟩ : ByteArray) = bs [65, x, x, 66] := bs_append [65, x, x] [66]
          have a6 : (⟨#[195, 169]⟩ : ByteArray) ++ bs [x] = bs [195, 169, x] := bs_append [195, 169] [x]
          have a7 : bs [x] ++ (⟨#[128]⟩ : ByteArray) = bs [x, 128] := bs_append [x] [128]
          have a8 : (⟨#[228, 184]⟩ : ByteArray) ++ bs [x] = bs [228, 184, x] := bs_append [228, 184] [x]
          obtain ⟨w5, rfl⟩ : ∃ w5 : World, w5 = wr := ⟨_, rfl⟩
          go_wp2_with fail
          obtain ⟨w6, hw6⟩ : ∃ w6 : World, w6 = (w5.alloc (.cells #[.int .u8 (k : Int)] 5)).alloc (.cells #[.string (bs [x]), .string (bs [97, x]), .string (bs [x, 66]), .string (bs [65, x, x, 66]), .string (bs [195, 169, x]), .string (bs [x, 128]), .string (bs [228, 184, x])] 9) := ⟨_, rfl⟩
          have hS : Row w6 w6.heap.size 1 (some ⟨w5.heap.size + 1, 0, none⟩) 7 (scells (seven x)) := by
            have := Row.fresh (w5.alloc (.cells #[.int .u8 (k : Int)] 5)) 9 #[.string (bs [x]), .string (bs [97, x]), .string (bs [x, 66]), .string (bs [65, x, x, 66]), .string (bs [195, 169, x]), .string (bs [x, 128]), .string (bs [228, 184, x])] (0, 0) (n := 7) (xs := scells (seven x)) rfl rfl
            rw [hw6]
            simpa using this
          have hb6 := Lib.hid (show Below w5.heap.size w5 w6 by rw [hw6]; exact ext_alloc2 _ _ _)
          rw [← hw6]
          replace hS := Lib.hid hS
          replace hb := Lib.hid hb
          clear hw6 a1 a2 a3 a4 a5 a6 a7 a8 hcv hwk
          go_loopw [39, 5] (fun j _ wq => ∃ i : Nat, i ≤ 7 ∧ j = .int .i64 i ∧ Below w6.heap.size w6 wq) (fun j _ _ => 7 - (intOf j).toNat)
          case atStart => exact ⟨0, by omega, rfl, Below.refl _ _⟩
          case round =>
            obtain ⟨i, hi, rfl, hbq⟩ := hrel
            rcases Nat.lt_or_eq_of_le hi with hil | rfl
            · obtain ⟨b, o, hA, hbb, hc⟩ := text_cell hS.out (by omega)
              have hcell : wr.cell? ⟨w5.heap.size + 1, i, none⟩ = some (.string (bs ((seven x)[i]'(by rw [seven_len]; omega)))) := by
                cases hA
                have h2 := (hbq.cell (p := ⟨w5.heap.size + 1, 0 + i, none⟩) hbb).trans (hc i (by rw [seven_len]; omega))
                rwa [Nat.zero_add] at h2
              have hsm := seven_small x _ (List.getElem_mem (show i < (seven x).length by rw [seven_len]; omega))
              obtain ⟨l, hl⟩ : ∃ l, l = (seven x)[i]'(by rw [seven_len]; omega) := ⟨_, rfl⟩
              rw [← hl] at hcell hsm
              clear hl hc hA
              have hT2 := Lib.hid (tabs_ext (tabs_ext (tabs_ext hT.out hb.out) hb6.out) hbq)
              go_wp2_with (go_at_call 9; refine (same_any l _ hsm hT2.out).mono ?_; rintro e w7 ⟨rfl, hb7⟩)
              go_roundw
              case rel => exact ⟨i + 1, by omega, by go_num, ext_trans hbq hb7⟩
              case measure => simp [intOf]; omega
            · go_wp2_with fail
              go_roundw
              case rel => exact ⟨k + 1, by omega, by go_num, ext_trans (ext_trans hb.out hb6.out) hbq⟩
              case measure => simp [intOf]; omega
        · have hT1 := Lib.hid (tabs_ext hT.out hb)
          replace hb := Lib.hid hb
          go_wp2_with (first
            | (go_at_call 8; refine (kinds_any _ _).mono ?_; rintro e w' ⟨rfl, rfl⟩)
            | (go_at_call 9; refine (same_any [] _ (by decide) hT1.out).mono ?_; rintro e w7 ⟨rfl, hb7⟩)
            | (go_at_call 10; refine (known_any _ (tabs_ext hT1.out hb7)).mono ?_; rintro e w8 ⟨rfl, hb8⟩))
          go_ret
          exact ⟨rfl, ext_trans (ext_trans hb.out hb7) hb8⟩
end Go.Proofs.YtlpjpgcdcigihaaDoor
