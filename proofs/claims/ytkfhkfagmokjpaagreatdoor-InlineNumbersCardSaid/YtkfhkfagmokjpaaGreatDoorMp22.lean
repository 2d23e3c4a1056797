/- InlineNumbers: chapter 12's runs, all rows of up to three of sixteen pieces, and those of forty tapes. -/
import Derived.Test.YtkfhkfagmokjpaaGreatDoorMp20
import Derived.Test.YtkfhkfagmokjpaaGreatDoorMp10
import Derived.ProofKit
namespace Go.Proofs.YtkfhkfagmokjpaaGreatDoor
open Go.RowKit

theorem ilByteEI : EI Tryz.prog 22 5 1 1 := EI.mk' (z := .int .u8 0) Tryz.underlying22 (by kernel_rfl) rfl (by omega)
theorem ilNumEI : EI Tryz.prog 26 3 1 8 := EI.mk' (z := .int .i64 0) Tryz.underlying26 (by kernel_rfl) rfl (by omega)

set_option maxHeartbeats 4000000 in
set_option maxRecDepth 100000 in
theorem iltape_any (k : Nat) (hk : k ≤ 1000) (w : World) :
    Calls Tryz.prog 7 #[.int .i64 (k : Int)] w fun e w' => ∃ (A : Option Addr) (c : Nat) (xs : List Int), e = .returned (.slice A xs.length c) ∧ xs.length ≤ c ∧ xs.length ≤ 900 ∧ Row w' w'.heap.size 1 A xs.length (icells xs) ∧ Below w.heap.size w w' := by
  go_enter Tryz.func7, Tryz.ntmps7
  go_wp2_with fail
  go_loopw [3, 4] (fun v i wr => ∃ (j : Nat) (xs : List Int), i = .int .i64 (j : Int) ∧ xs.length = j ∧ j ≤ 900 ∧ Hid (wr.ownsRow w.heap.size 3 1 v j (icells xs)) ∧ Hid (Below w.heap.size w wr)) (fun _ i _ => 900 - (intOf i).toNat)
  case atStart => exact ⟨0, [], rfl, rfl, by omega, Lib.hid ⟨rfl, .inl ⟨rfl, rfl⟩⟩, Lib.hid (Below.refl _ _)⟩
  case round =>
    obtain ⟨j, xs, rfl, hj, hj9, hown, hb⟩ := hrel
    obtain ⟨A, c, rfl, hc⟩ := own_shape hown.out
    have hbz := hb.out.size
    rcases Nat.lt_or_ge j 900 with hlt | hge
    · have hlt' : (j : Int) < 900 := by omega
      go_wp2_with (at_builtin; refine wpList_app_new rfl (.tmp 9) (.tmp 22) rfl ilNumEI rfl hown.out rfl rfl rfl (by intro u hu; simp at hu; subst hu; rfl) (by omega) (by omega) (by omega) ?_; intro v4 w4 hown4 hg4 hb4)
      go_roundw
      case rel => exact ⟨j + 1, xs ++ [_], by go_num, by rw [List.length_append, hj]; rfl, by omega, Lib.hid (by
          unfold icells
          rw [List.map_append]
          exact hown4), Lib.hid (hb.out.trans hb4)⟩
      case measure => simp [intOf]; omega
    · have hge' : (900 : Int) ≤ (j : Int) := by omega
      go_wp2_with fail
      go_ret
      subst hj
      exact ⟨A, c, xs, rfl, hc, hj9, Row.own hown.out, hb.out⟩

set_option maxHeartbeats 8000000 in
set_option maxRecDepth 100000 in
theorem ilnumbers_any (hP : PParse) (hX : PText) (w : World) (hTb : Tabs w) :
    Calls Tryz.prog 3 #[] w fun e w' => e = .returned (.bool true) ∧ Below w.heap.size w w' := by
  have hTt := Lib.hid (fun w' (hb : Below w.heap.size w w') => tabs_below hTb hb)
  have hS := Lib.hid (fun s w h t => ilsame_any hP hX s w h t)
  have hK := Lib.hid (fun w t => ilknown_any hP hX w t)
  clear hTb hP hX
  go_enter Tryz.func3, Tryz.ntmps3
  go_wp2_with fail
  go_loopw [1] (fun n wr => ∃ (k : Nat), k ≤ 4369 ∧ n = .int .i64 k ∧ Below w.heap.size w wr) (fun n _ => 4369 - (intOf n).toNat)
  case atStart => exact ⟨0, by omega, rfl, Below.refl _ _⟩
  case round =>
    obtain ⟨n, hn, rfl, hb⟩ := hrel
    by_cases hlt : n < 4369
    · obtain ⟨wo, rfl⟩ : ∃ wo : World, wo = wr := ⟨_, rfl⟩
      have hzo := hb.size
      go_wp2_with fail
      rw [show decide ((n : Int) < 4369) = true from decide_eq_true (by omega)]
      go_loopw [2, 3] (fun v i wr => ∃ (k : Nat) (l : List UInt8), k + l.length ≤ 4368 ∧ i = .int .i64 k ∧ wr.ownsRow wo.heap.size 5 1 v l.length (bcells l) ∧ Below wo.heap.size wo wr) (fun _ i _ => (intOf i).toNat)
      case atStart => exact ⟨n, [], by simp; omega, rfl, World.ownsRow_nil _ _ _ _, Below.refl _ _⟩
      case round =>
        obtain ⟨k, l, hkl, rfl, hown, hb2⟩ := hrel
        have hz2 := hb2.size
        by_cases hk : 0 < k
        · obtain ⟨m, hm⟩ : ∃ m, (k - 1) % 16 = m := ⟨_, rfl⟩
          have hm16 : m < 16 := by omega
          have hmi : ((k : Int) - 1) % 16 = (m : Int) := by omega
          have hq : Hid (((k : Int) - 1) / 16 = (((k - 1) / 16 : Nat) : Int)) := Lib.hid (by omega)
          have hq2 : (k - 1) / 16 < k := by omega
          have hwk : IntKind.u8.wrap (m : Int) = m := by
            unfold IntKind.wrap; simp [IntKind.bits, IntKind.signed]; omega
          have hx : Hid (((UInt8.ofNat m).toNat : Int) = m) := Lib.hid (by simp; omega)
          clear hm
          go_wp2_with (at_builtin; refine wpList_app_new rfl (.tmp 15) (.tmp 20) rfl ilByteEI rfl hown rfl rfl rfl (by simp; rfl) (by omega) (by omega) hz2 ?_; intro v2 w2 hown2 hg2 hb3)
          exact ⟨⟨(k - 1) / 16, l ++ [UInt8.ofNat m], by simp; omega, by rw [hq.out], by
            have e : bcells (l ++ [UInt8.ofNat m]) = bcells l ++ [Value.int .u8 (m : Int)] := by
              simp only [bcells, List.map_append, List.map_cons, List.map_nil, bv]; rw [hx.out]
            rw [e, List.length_append]; exact hown2, hb2.trans hb3⟩, by simp [intOf]; omega⟩
        · have hk0 : k = 0 := by omega
          subst hk0
          obtain ⟨A, c, rfl, hlc⟩ := own_shape hown
          have hRb := Lib.hid (Row.own hown)
          have hom := own_max hown
          have hbo := Lib.hid (ext_trans hb hb2)
          have hRx := Lib.hid (fun wz (hz : Below wr.heap.size wr wz) => (Row.own hown).ext hz)
          clear hown hk hb2 hb
          have hT := md_all l
          have hmk := Lib.hid (fun w h => made_fn l A c w h hom)
          obtain ⟨M, hTT⟩ : ∃ T, T = md 28 l := ⟨_, rfl⟩
          rw [← hTT] at hT hmk
          clear hTT
          obtain ⟨M1, hM1⟩ : ∃ T : List UInt8, T = [42] ++ M := ⟨_, rfl⟩
          obtain ⟨M2, hM2⟩ : ∃ T, T = M1 ++ [42] := ⟨_, rfl⟩
          obtain ⟨L1, hL1⟩ : ∃ T : List UInt8, T = [91] ++ M := ⟨_, rfl⟩
          obtain ⟨L2, hL2⟩ : ∃ T : List UInt8, T = L1 ++ [93, 40, 100, 41] := ⟨_, rfl⟩
          have e1 : (⟨#[42]⟩ : ByteArray) ++ bs M = bs M1 := by rw [hM1]; exact bs_append [42] M
          have e2 : bs M1 ++ (⟨#[42]⟩ : ByteArray) = bs M2 := by rw [hM2]; exact bs_append M1 [42]
          have e3 : (⟨#[91]⟩ : ByteArray) ++ bs M = bs L1 := by rw [hL1]; exact bs_append [91] M
          have e4 : bs L1 ++ (⟨#[93, 40, 100, 41]⟩ : ByteArray) = bs L2 := by rw [hL2]; exact bs_append L1 [93, 40, 100, 41]
          have l1 : M1.length = M.length + 1 := by rw [hM1]; simp
          have l2 : M2.length = M.length + 2 := by rw [hM2]; simp [l1]
          have l3 : L1.length = M.length + 1 := by rw [hL1]; simp
          have l4 : L2.length = M.length + 5 := by rw [hL2]; simp [l3]
          have z2 := bs_size M
          have z3 := bs_size M1
          have z5 := bs_size L1
          clear hM1 hM2 hL1 hL2
          go_wp2_with fail
          refine (hmk.out _ (hRx.out _ (Below.refl _ _))).mono ?_
          rintro e w3 ⟨rfl, hb3⟩
          have hc3 := Lib.hid hb3
          replace hb3 := Lib.hid (ext_trans hbo.out hb3)
          go_wp2_with fail
          refine (hS.out M _ (by omega) (hTt.out _ hb3.out)).mono ?_
          rintro e w4 ⟨rfl, hb4⟩
          have hc4 := Lib.hid (ext_trans hc3.out hb4)
          replace hb4 := Lib.hid (ext_trans hb3.out hb4)
          go_wp2_with fail
          refine (hmk.out _ (hRx.out _ hc4.out)).mono ?_
          rintro e w5 ⟨rfl, hb5⟩
          have hc5 := Lib.hid (ext_trans hc4.out hb5)
          replace hb5 := Lib.hid (ext_trans hb4.out hb5)
          go_wp2_with fail
          refine (hS.out M2 _ (by omega) (hTt.out _ hb5.out)).mono ?_
          rintro e w6 ⟨rfl, hb6⟩
          have hc6 := Lib.hid (ext_trans hc5.out hb6)
          replace hb6 := Lib.hid (ext_trans hb5.out hb6)
          go_wp2_with fail
          refine (hmk.out _ (hRx.out _ hc6.out)).mono ?_
          rintro e w7 ⟨rfl, hb7⟩
          replace hb7 := Lib.hid (ext_trans hb6.out hb7)
          go_wp2_with fail
          refine (hS.out L2 _ (by omega) (hTt.out _ hb7.out)).mono ?_
          rintro e w8 ⟨rfl, hb8⟩
          replace hb8 := Lib.hid (ext_trans hb7.out hb8)
          go_wp2_with fail
          go_roundw
          case rel => exact ⟨n + 1, by omega, by go_num, hb8.out⟩
          case measure => simp [intOf]; omega
    · replace hb := Lib.hid hb
      go_wp2_with fail
      go_loopw [4] (fun i wr2 => ∃ k : Nat, i = .int .i64 (k : Int) ∧ k ≤ 40 ∧ Hid (Below w.heap.size w wr2)) (fun i _ => 40 - (intOf i).toNat)
      case atStart => exact ⟨0, rfl, by omega, hb⟩
      case round =>
        obtain ⟨k, rfl, hk, hb⟩ := hrel
        rcases Nat.lt_or_ge k 40 with hlt | hge
        · have hlt' : (k : Int) < 40 := by omega
          go_wp2_with fail
          refine (iltape_any k (by omega) wr).mono ?_
          rintro e w1 ⟨A, c, xs, rfl, hxc, hxl, hR, hb1⟩
          have hB1 := Lib.hid (ext_trans hb.out hb1)
          have hT := Lib.hid (tapeNew w1 xs A c hR hxc (by omega))
          have hbA := Lib.hid (ext_alloc w1 (.cells #[.slice A xs.length c, .int .i64 0] 29))
          have hzA : (w1.alloc (.cells #[.slice A xs.length c, .int .i64 0] 29)).heap.size = w1.heap.size + 1 := by simp
          have hm := Lib.hid (fun w' h => words_any w' w1.heap.size h 40 (by omega) 40 rfl)
          clear hb1 hR
          go_wp2_with fail
          generalize w1.alloc (.cells #[.slice A xs.length c, .int .i64 0] 29) = wa at hT hbA hzA ⊢
          refine (hm.out wa hT.out).mono ?_
          rintro e w2 ⟨s, rfl, hs, _, hb2⟩
          have hB2 := Lib.hid (ext_trans hB1.out (hbA.out.trans hb2.1))
          clear hb2 hbA hm hT
          go_wp2_with fail
          refine (hS.out s _ (by omega) (hTt.out _ hB2.out)).mono ?_
          rintro e w3 ⟨rfl, hb3⟩
          have hB3 := Lib.hid (ext_trans hB2.out hb3)
          clear hb3
          go_wp2_with fail
          go_roundw
          case rel => exact ⟨k + 1, by go_num, by omega, hB3⟩
          case measure => simp [intOf]; omega
        · have hge' : (40 : Int) ≤ (k : Int) := by omega
          go_wp2_with fail
          refine (hK.out _ (hTt.out _ hb.out)).mono ?_
          rintro e w1 ⟨rfl, hb1⟩
          replace hb1 := Lib.hid (ext_trans hb.out hb1)
          go_wp2_with fail
          go_ret
          exact ⟨rfl, hb1.out⟩
end Go.Proofs.YtkfhkfagmokjpaaGreatDoor
