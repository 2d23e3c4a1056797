/- LinkNumbers: chapter 11's runs, all rows of up to three of sixteen pieces, from each few places. -/
import Derived.Test.YtjkmhcolnidflaaLkSame
import Derived.Test.YtjkmhcolnidflaaLkMade
import Derived.ProofKit
namespace Go.Proofs.Ytjkmhcolnidflaa
open Go.RowKit

theorem lkByteEI : EI Try.prog 22 5 1 1 := EI.mk' (z := .int .u8 0) Try.underlying22 (by kernel_rfl) rfl (by omega)
theorem lk_text_cell {ls : List (List UInt8)} {w : World} {B : Nat} {A : Option Addr} (h : Row w B 1 A ls.length (scells ls)) {k : Nat} (hk : k < ls.length) :
    ∃ b o, A = some ⟨b, o, none⟩ ∧ b < B ∧ w.cell? ⟨b, o + k, none⟩ = some (.string (bs ls[k])) := by
  obtain ⟨b, o, e, hb, hc⟩ := h.at1 (by omega)
  exact ⟨b, o, e, hb, by rw [hc k hk]; simp [scells]⟩
theorem lk_row_new (w : World) (E : TypeId) (C : Array Value) {n size : Nat} {xs : List Value} (hn : xs.length = n * size) (hx : C.toList = xs) :
    Row (w.alloc (.cells C E)) (w.alloc (.cells C E)).heap.size size (some ⟨w.heap.size, 0, none⟩) n xs := by
  subst hx
  refine ⟨hn, fun _ => ⟨w.heap.size, 0, rfl, by simp, fun j u hu => ?_⟩⟩
  have := cells_new w C E rfl j u hu
  rwa [show (⟨w.heap.size, 0, none⟩ : Addr).add j = ⟨w.heap.size, 0 + j, none⟩ from by unfold Addr.add; split <;> simp_all] at this
theorem zs_bs (n : Nat) : bs (List.replicate n 122) ++ (⟨#[122]⟩ : ByteArray) = bs (List.replicate (n + 1) 122) := by
  rw [List.replicate_succ']; exact bs_append _ [122]

set_option maxHeartbeats 8000000 in
set_option maxRecDepth 100000 in
theorem lknumbers_any (w : World) :
    Calls Try.prog 3 #[] w fun e w' => e = .returned (.bool true) ∧ Below w.heap.size w w' := by
  go_enter Try.func3, Try.ntmps3
  go_wp2_with fail
  go_loopw [1] (fun n wr => ∃ (k : Nat), k ≤ 4369 ∧ n = .int .i64 k ∧ Below w.heap.size w wr) (fun n _ => 4369 - (intOf n).toNat)
  case atStart => exact ⟨0, by omega, rfl, Below.refl _ _⟩
  case round =>
    obtain ⟨n, hn, rfl, hb⟩ := hrel
    by_cases hlt : n < 4369
    · obtain ⟨wo, rfl⟩ : ∃ wo : World, wo = wr := ⟨_, rfl⟩
      have hzo := hb.size
      go_wp2_with fail
      rw [show decide ((n : Int) < 4369) = true from decide_eq_true (by omega)]
      go_loopw [2, 3] (fun v i wr => ∃ (k : Nat) (l : List UInt8), k + l.length ≤ 4368 ∧ i = .int .i64 k ∧ wr.ownsRow wo.heap.size 5 1 v l.length (bcells l) ∧ Below wo.heap.size wo wr) (fun _ i _ => (intOf i).toNat)
      case atStart => exact ⟨n, [], by simp; omega, rfl, World.ownsRow_nil _ _ _ _, Below.refl _ _⟩
      case round =>
        obtain ⟨k, l, hkl, rfl, hown, hb2⟩ := hrel
        have hz2 := hb2.size
        by_cases hk : 0 < k
        · obtain ⟨m, hm⟩ : ∃ m, (k - 1) % 16 = m := ⟨_, rfl⟩
          have hm16 : m < 16 := by omega
          have hmi : ((k : Int) - 1) % 16 = (m : Int) := by omega
          have hq : Hid (((k : Int) - 1) / 16 = (((k - 1) / 16 : Nat) : Int)) := Lib.hid (by omega)
          have hq2 : (k - 1) / 16 < k := by omega
          have hwk : IntKind.u8.wrap (m : Int) = m := by
            unfold IntKind.wrap; simp [IntKind.bits, IntKind.signed]; omega
          have hx : Hid (((UInt8.ofNat m).toNat : Int) = m) := Lib.hid (by simp; omega)
          clear hm
          go_wp2_with (at_builtin; refine wpList_app_new rfl (.tmp 19) (.tmp 24) rfl lkByteEI rfl hown rfl rfl rfl (by simp; rfl) (by omega) (by omega) hz2 ?_; intro v2 w2 hown2 hg2 hb3)
          exact ⟨⟨(k - 1) / 16, l ++ [UInt8.ofNat m], by simp; omega, by rw [hq.out], by
            have e : bcells (l ++ [UInt8.ofNat m]) = bcells l ++ [Value.int .u8 (m : Int)] := by
              simp only [bcells, List.map_append, List.map_cons, List.map_nil, bv]; rw [hx.out]
            rw [e, List.length_append]; exact hown2, hb2.trans hb3⟩, by simp [intOf]; omega⟩
        · have hk0 : k = 0 := by omega
          subst hk0
          obtain ⟨A, c, rfl, hlc⟩ := own_shape hown
          have hRb := Lib.hid (Row.own hown)
          have hom := own_max hown
          replace hb2 := Lib.hid hb2
          clear hown hk
          go_wp2_with fail
          refine (made_fn l A c _ hRb.out hom).mono ?_
          rintro e w3 ⟨rfl, hb3⟩
          have hT := md_all l
          obtain ⟨M, hTT⟩ : ∃ T, T = md 24 l := ⟨_, rfl⟩
          rw [← hTT] at hT ⊢
          clear hTT
          have hbo := Lib.hid (ext_trans hb (ext_trans hb2.out hb3))
          clear hRb hb3 hb2 hb
          obtain ⟨M1, hM1⟩ : ∃ T : List UInt8, T = [91] ++ M := ⟨_, rfl⟩
          obtain ⟨M2, hM2⟩ : ∃ T, T = M1 ++ [93] := ⟨_, rfl⟩
          obtain ⟨L1, hL1⟩ : ∃ T : List UInt8, T = [40] ++ M := ⟨_, rfl⟩
          obtain ⟨L2, hL2⟩ : ∃ T : List UInt8, T = L1 ++ [41] := ⟨_, rfl⟩
          obtain ⟨S1, hS1⟩ : ∃ T : List UInt8, T = [60, 97, 98, 99, 58] ++ M := ⟨_, rfl⟩
          obtain ⟨S2, hS2⟩ : ∃ T, T = S1 ++ [62] := ⟨_, rfl⟩
          have e1 : (⟨#[91]⟩ : ByteArray) ++ bs M = bs M1 := by rw [hM1]; exact bs_append [91] M
          have e2 : bs M1 ++ (⟨#[93]⟩ : ByteArray) = bs M2 := by rw [hM2]; exact bs_append M1 [93]
          have e3 : (⟨#[40]⟩ : ByteArray) ++ bs M = bs L1 := by rw [hL1]; exact bs_append [40] M
          have e3' : bs L1 ++ (⟨#[41]⟩ : ByteArray) = bs L2 := by rw [hL2]; exact bs_append L1 [41]
          have e4 : (⟨#[60, 97, 98, 99, 58]⟩ : ByteArray) ++ bs M = bs S1 := by rw [hS1]; exact bs_append [60, 97, 98, 99, 58] M
          have e5 : bs S1 ++ (⟨#[62]⟩ : ByteArray) = bs S2 := by rw [hS2]; exact bs_append S1 [62]
          have l1 : M1.length = M.length + 1 := by rw [hM1]; simp
          have l2 : M2.length = M.length + 2 := by rw [hM2]; simp [l1]
          have l3 : L1.length = M.length + 1 := by rw [hL1]; simp
          have l3' : L2.length = M.length + 2 := by rw [hL2]; simp [l3]
          have l4 : S1.length = M.length + 5 := by rw [hS1]; simp
          have l5 : S2.length = M.length + 6 := by rw [hS2]; simp [l4]
          have z2 := bs_size M
          have z3 := bs_size M1
          have z4 := bs_size S1
          have z5 := bs_size L1
          clear hM1 hM2 hL1 hL2 hS1 hS2
          go_wp2_with fail
          generalize hw4 : World.alloc w3 _ = w4
          have hS := Lib.hid (show Row w4 w4.heap.size 1 (some ⟨w3.heap.size, 0, none⟩) 4 (scells [M, M2, L2, S2]) from by rw [← hw4]; exact lk_row_new w3 9 _ (by rfl) (by rfl))
          have hb4 := Lib.hid (ext_trans hbo.out (show Below w3.heap.size w3 w4 from by rw [← hw4]; exact ext_alloc _ _))
          have hlen : ∀ x ∈ [M, M2, L2, S2], x.length ≤ 1000 := by
            intro x hx
            simp only [List.mem_cons, List.not_mem_nil, or_false] at hx
            rcases hx with rfl | rfl | rfl | rfl <;> omega
          generalize w3.heap.size = gs at hS ⊢
          clear hw4 hbo
          replace hlen := Lib.hid hlen
          obtain ⟨Ts, hTs⟩ : ∃ Ts, Ts = [M, M2, L2, S2] := ⟨_, rfl⟩
          have hTl : Ts.length = 4 := by rw [hTs]; rfl
          rw [← hTs] at hS hlen
          clear hTs e1 e2 e3 e3' e4 e5
          go_loopw [40] (fun v wz => ∃ m : Nat, m ≤ 4 ∧ v = .int .i64 (m : Int) ∧ Hid (Below w4.heap.size w4 wz)) (fun v _ => 4 - (intOf v).toNat)
          case atStart => exact ⟨0, by omega, rfl, Lib.hid (Below.refl _ _)⟩
          case round =>
            obtain ⟨m, hm, rfl, hz⟩ := hrel
            by_cases hml : m < 4
            · have hml2 : m < Ts.length := by omega
              obtain ⟨b, o, hAe, hbb, hc⟩ := lk_text_cell (ls := Ts) (by rw [hTl]; exact hS.out) hml2
              injection hAe with hAe; injection hAe with e1 e2 _
              subst e1 e2
              have hcz := (hz.out.cell (p := ⟨gs, 0 + m, none⟩) hbb).trans hc
              rw [Nat.zero_add] at hcz
              have hDl := hlen.out Ts[m] (List.getElem_mem hml2)
              obtain ⟨D, hD⟩ : ∃ D, D = Ts[m]'hml2 := ⟨_, rfl⟩
              rw [← hD] at hcz hDl
              clear hD hc
              go_wp2_with fail
              refine (lksame_any D _ (by omega) _).mono ?_
              rintro e w6 ⟨rfl, hb6⟩
              replace hb6 := Lib.hid (ext_trans hz.out hb6)
              go_wp2_with fail
              refine (lksame_any D _ (by omega) _).mono ?_
              rintro e w7 ⟨rfl, hb7⟩
              replace hb7 := Lib.hid (ext_trans hb6.out hb7)
              go_wp2_with fail
              go_roundw
              case rel => exact ⟨m + 1, by omega, by go_num, hb7⟩
              case measure => simp [intOf]; omega
            · have hyy := Lib.hid (ext_trans hb4.out hz.out)
              go_wp2_with fail
              go_roundw
              case rel => exact ⟨n + 1, by omega, by go_num, hyy.out⟩
              case measure => simp [intOf]; omega
    · replace hb := Lib.hid hb
      go_wp2_with fail
      go_loopw [7, 8] (fun v i wz => ∃ m : Nat, m ≤ 16 ∧ v = .string (bs (List.replicate m 122)) ∧ i = .int .i64 (m : Int) ∧ Hid (Below w.heap.size w wz)) (fun _ v _ => 16 - (intOf v).toNat)
      case atStart => exact ⟨0, by omega, rfl, rfl, hb⟩
      case round =>
        obtain ⟨m, hm, rfl, rfl, hz⟩ := hrel
        by_cases hml : m < 16
        · have hzs := Lib.hid (zs_bs m)
          have hlz : (List.replicate m (122 : UInt8)).length = m := List.length_replicate
          obtain ⟨Z, hZ⟩ : ∃ Z : List UInt8, Z = List.replicate m 122 := ⟨_, rfl⟩
          rw [← hZ] at hlz hzs ⊢
          clear hZ
          have zz := bs_size Z
          obtain ⟨Z1, hZ1⟩ : ∃ T : List UInt8, T = [60] ++ Z := ⟨_, rfl⟩
          obtain ⟨Z2, hZ2⟩ : ∃ T : List UInt8, T = Z1 ++ [58, 120, 62] := ⟨_, rfl⟩
          obtain ⟨Z3, hZ3⟩ : ∃ T : List UInt8, T = Z ++ [58] := ⟨_, rfl⟩
          have e1 : (⟨#[60]⟩ : ByteArray) ++ bs Z = bs Z1 := by rw [hZ1]; exact bs_append [60] Z
          have e2 : bs Z1 ++ (⟨#[58, 120, 62]⟩ : ByteArray) = bs Z2 := by rw [hZ2]; exact bs_append Z1 [58, 120, 62]
          have e3 : bs Z ++ (⟨#[58]⟩ : ByteArray) = bs Z3 := by rw [hZ3]; exact bs_append Z [58]
          have z1 := bs_size Z1
          have l1 : Z1.length = m + 1 := by rw [hZ1]; simp [hlz]
          have l2 : Z2.length = m + 4 := by rw [hZ2]; simp [l1]
          have l3 : Z3.length = m + 1 := by rw [hZ3]; simp [hlz]
          clear hZ1 hZ2 hZ3
          go_wp2_with fail
          refine (lksame_any Z2 0 (by omega) _).mono ?_
          rintro e w6 ⟨rfl, hb6⟩
          replace hb6 := Lib.hid (ext_trans hz.out hb6)
          go_wp2_with fail
          refine (lksame_any Z3 0 (by omega) _).mono ?_
          rintro e w7 ⟨rfl, hb7⟩
          replace hb7 := Lib.hid (ext_trans hb6.out hb7)
          go_wp2_with fail
          go_roundw
          case rel => exact ⟨m + 1, by omega, by rw [hzs.out], by go_num, hb7⟩
          case measure => simp [intOf]; omega
        · go_wp2_with fail
          refine (lksame_any [] 0 (by decide) _).mono ?_
          rintro e w4 ⟨rfl, hb4⟩
          replace hb4 := Lib.hid (ext_trans hz.out hb4)
          go_wp2_with fail
          refine (lksame_any [91] 4611686018427387904 (by decide) _).mono ?_
          rintro e w5 ⟨rfl, hb5⟩
          replace hb5 := Lib.hid (ext_trans hb4.out hb5)
          go_wp2_with fail
          refine (lksame_any [40] (-9223372036854775808) (by decide) _).mono ?_
          rintro e w6 ⟨rfl, hb6⟩
          replace hb6 := Lib.hid (ext_trans hb5.out hb6)
          go_wp2_with fail
          refine (lkknown_any _).mono ?_
          rintro e w7 ⟨rfl, hb7⟩
          replace hb7 := Lib.hid (ext_trans hb6.out hb7)
          go_wp2_with fail
          go_ret
          exact ⟨rfl, hb7.out⟩
end Go.Proofs.Ytjkmhcolnidflaa
