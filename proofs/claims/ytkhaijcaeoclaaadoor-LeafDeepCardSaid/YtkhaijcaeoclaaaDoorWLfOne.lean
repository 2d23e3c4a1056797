/- LeafOne: no line is two of a heading, a break, a quote, an item. -/
import Derived.Test.YtkhaijcaeoclaaaDoorLfOne
import Derived.Test.YtkhaijcaeoclaaaDoorLfProg
import Derived.Test.YtkhaijcaeoclaaaDoorLfKnown
import Derived.Test.YtkhaijcaeoclaaaDoorLfMade
import Derived.Test.YtkhaijcaeoclaaaDoorBlk
import Derived.ProofKit
namespace Go.Proofs.YtkhaijcaeoclaaaDoor
open Go.RowKit

theorem bullet_is {c : UInt8} (h : Lf.bullet c = true) : c = 45 ∨ c = 42 ∨ c = 43 := by
  unfold Lf.bullet at h
  simp only [Bool.or_eq_true, beq_iff_eq] at h
  rcases h with (h | h) | h
  · exact .inr (.inl h)
  · exact .inl h
  · exact .inr (.inr h)
/-- one of three texts -/
theorem three_at {T S U : List UInt8} {k : Nat} (hk : k < 3) {w1 : World} {g : Nat} {t : TypeId} {fr : Nat × Nat} (h : w1.heap[g]? = some (.cells #[.string (bs T), .string (bs S), .string (bs U)] t fr)) :
    ∃ V, (V = T ∨ V = S ∨ V = U) ∧ w1.cell? ⟨g, k, none⟩ = some (.string (bs V)) := by
  obtain ⟨y0, y1, y2⟩ := three h
  rcases (show k = 0 ∨ k = 1 ∨ k = 2 from by omega) with rfl | rfl | rfl
  · exact ⟨T, .inl rfl, y0⟩
  · exact ⟨S, .inr (.inl rfl), y1⟩
  · exact ⟨U, .inr (.inr rfl), y2⟩

set_option maxHeartbeats 8000000 in
set_option maxRecDepth 100000 in
theorem one_any (ks l : List UInt8) (A : Option Addr) (c : Nat) (w : World) (hR : Row w w.heap.size 1 A ks.length (bcells ks)) (hkm : ks.length ≤ 9223372036854775807) (hl : l.length + 300 ≤ 140737488355328) :
    Calls Tryd.prog 5 #[.slice A ks.length c, .string (bs l)] w fun e w' => e = .returned (.bool true) ∧ Below w.heap.size w w' := by
  have hml := md_all ks
  obtain ⟨T, hTT⟩ : ∃ T, md 24 ks = T := ⟨_, rfl⟩
  have hmd := fun w h => made_fn ks A c w h hkm
  rw [hTT] at hml hmd
  clear hTT
  have a1 : (⟨#[32, 32]⟩ : ByteArray) ++ bs T = bs ([32, 32] ++ T) := bs_append [32, 32] T
  have n0 := bs_size T
  have hno : ¬ 9223372036854775807 < 2 + T.length := by omega
  have l1 : ([32, 32] ++ T).length ≤ 300 := by simp; omega
  obtain ⟨U, hU⟩ : ∃ U, [32, 32] ++ T = U := ⟨_, rfl⟩
  rw [hU] at a1 l1
  clear hU
  replace hR := Lib.hid hR
  go_enter Tryd.func5, Tryd.ntmps5
  go_wp2_with fail
  refine (hmd _ hR.out).mono ?_
  rintro e w1 ⟨rfl, hb1⟩
  have hR1 := hR.out.ext hb1
  go_wp2_with fail
  refine (hmd _ hR1).mono ?_
  rintro e w2 ⟨rfl, hb2⟩
  have hB2 := Lib.hid (ext_trans hb1 hb2)
  clear hb1 hb2 hR1 hmd
  have hq := Lib.hid (heap_alloc_new w2 (.cells #[.string (bs T), .string (bs l), .string (bs U)] 9))
  have hBq := Lib.hid (hB2.out.alloc hB2.out.size (.cells #[.string (bs T), .string (bs l), .string (bs U)] 9))
  go_upto_block 0 with fail
  obtain ⟨wq, hwq⟩ : ∃ wq, w2.alloc (.cells #[.string (bs T), .string (bs l), .string (bs U)] 9) = wq := ⟨_, rfl⟩
  obtain ⟨g, hg⟩ : ∃ g, w2.heap.size = g := ⟨_, rfl⟩
  rw [hwq] at hq hBq ⊢
  rw [hg] at hq ⊢
  clear hwq hg hB2
  go_wp2_with fail
  go_loopw [25] (fun i wr => ∃ k : Nat, k ≤ 3 ∧ i = .int .i64 (k : Int) ∧ Below wq.heap.size wq wr) (fun i _ => 3 - (intOf i).toNat)
  case atStart => exact ⟨0, by omega, rfl, Below.refl _ _⟩
  case round =>
    obtain ⟨k, hk, rfl, hb⟩ := hrel
    by_cases hk3 : k < 3
    · obtain ⟨hqr, hlt⟩ := keep hq.out hb
      obtain ⟨V, hV, hcell⟩ := three_at hk3 hqr
      have hVl : V.length + 100 ≤ 140737488355328 := by
        rcases hV with rfl | rfl | rfl
        · omega
        · omega
        · omega
      have p1 := fun w => phead_any V w hVl
      have p2 := fun w => pbrk_any V w hVl
      have p3 := fun w => pquote_any V w hVl
      have p4 := fun w => pitem_any V w hVl
      have hb0 := Lib.hid hb
      clear hqr hb hV
      rcases Lf.one_of V with ⟨e1, e2, e3, e4⟩ | ⟨⟨hn, ht, e1⟩, e2, e3, e4⟩ | ⟨e1, e2, e3, e4⟩ | ⟨e1, e2, ⟨qr, e3⟩, e4⟩ | ⟨e1, e2, e3, ic, ik, it, e4, hbu, h2, h8⟩
      case inr.inr.inr.inr =>
        rw [e1] at p1
        rw [e2] at p2
        rw [e3] at p3
        rw [e4] at p4
        clear e1 e2 e3 e4
        have t2 : decide ((ik : Int) < 2) = false := by simp; omega
        have t8 : decide ((8 : Int) < (ik : Int)) = false := by simp; omega
        change ∀ w, Calls Tryd.prog 11 #[.string (bs V)] w (fun e w' => e = .returned (.tuple #[.int .i64 0, .string ⟨#[]⟩, .bool false]) ∧ Below w.heap.size w w') at p1
        change ∀ w, Calls Tryd.prog 13 #[.string (bs V)] w (fun e w' => e = .returned (.tuple #[.string ⟨#[]⟩, .bool false]) ∧ Below w.heap.size w w') at p3
        rcases bullet_is hbu with rfl | rfl | rfl
        case' inl => change ∀ w, Calls Tryd.prog 14 #[.string (bs V)] w (fun e w' => e = .returned (.tuple #[.int .u8 45, .int .i64 (ik : Int), .string (bs it), .bool true]) ∧ Below w.heap.size w w') at p4
        case' inr.inl => change ∀ w, Calls Tryd.prog 14 #[.string (bs V)] w (fun e w' => e = .returned (.tuple #[.int .u8 42, .int .i64 (ik : Int), .string (bs it), .bool true]) ∧ Below w.heap.size w w') at p4
        case' inr.inr => change ∀ w, Calls Tryd.prog 14 #[.string (bs V)] w (fun e w' => e = .returned (.tuple #[.int .u8 43, .int .i64 (ik : Int), .string (bs it), .bool true]) ∧ Below w.heap.size w w') at p4
        all_goals
          clear hbu
          go_wp2_with fail
          refine (p1 _).mono ?_
          rintro e w3 ⟨rfl, hb3⟩
          have hB3 := Lib.hid (hb0.out.trans (hb3.mono hb0.out.size))
          clear hb3 hcell
          go_wp2_with fail
          refine (p2 _).mono ?_
          rintro e w4 ⟨rfl, hb4⟩
          have hB4 := Lib.hid (hB3.out.trans (hb4.mono hB3.out.size))
          clear hb4 hB3
          go_wp2_with fail
          refine (p3 _).mono ?_
          rintro e w5 ⟨rfl, hb5⟩
          have hB5 := Lib.hid (hB4.out.trans (hb5.mono hB4.out.size))
          clear hb5 hB4
          go_wp2_with fail
          refine (p4 _).mono ?_
          rintro e w6 ⟨rfl, hb6⟩
          have hB6 := Lib.hid (hB5.out.trans (hb6.mono hB5.out.size))
          clear hb6 hB5 p1 p2 p3 p4
          go_wp2_with fail
          go_roundw
          case rel => exact ⟨k + 1, by omega, by go_num, hB6.out⟩
          case measure => simp [intOf]; omega
      all_goals
        rw [e1] at p1
        rw [e2] at p2
        rw [e3] at p3
        rw [e4] at p4
        clear e1 e2 e3 e4
        simp only [headv, quotev, itemv] at p1 p3 p4
        go_wp2_with fail
        refine (p1 _).mono ?_
        rintro e w3 ⟨rfl, hb3⟩
        have hB3 := Lib.hid (hb0.out.trans (hb3.mono hb0.out.size))
        clear hb3 hcell
        go_wp2_with fail
        refine (p2 _).mono ?_
        rintro e w4 ⟨rfl, hb4⟩
        have hB4 := Lib.hid (hB3.out.trans (hb4.mono hB3.out.size))
        clear hb4 hB3
        go_wp2_with fail
        refine (p3 _).mono ?_
        rintro e w5 ⟨rfl, hb5⟩
        have hB5 := Lib.hid (hB4.out.trans (hb5.mono hB4.out.size))
        clear hb5 hB4
        go_wp2_with fail
        refine (p4 _).mono ?_
        rintro e w6 ⟨rfl, hb6⟩
        have hB6 := Lib.hid (hB5.out.trans (hb6.mono hB5.out.size))
        clear hb6 hB5 p1 p2 p3 p4
        go_wp2_with fail
        go_roundw
        case rel => exact ⟨k + 1, by omega, by go_num, hB6.out⟩
        case measure => simp [intOf]; omega
    · have hb0 := Lib.hid (hBq.out.trans (hb.mono hBq.out.size))
      clear hb
      go_wp2_with fail
      refine (known_fn _).mono ?_
      rintro e w9 ⟨rfl, hb9⟩
      go_wp2_with fail
      go_returns
      exact ⟨rfl, ext_trans hb0.out hb9⟩
end Go.Proofs.YtkhaijcaeoclaaaDoor
