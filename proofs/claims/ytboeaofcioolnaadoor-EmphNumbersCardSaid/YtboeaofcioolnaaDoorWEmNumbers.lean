/- Law 10: chapter 10's runs, all rows of up to three of thirty-two runs; signs between each few others. What the program's Match does is a premise. -/
import Derived.Test.YtboeaofcioolnaaDoorEmKnown
import Derived.ProofKit
namespace Go.Proofs.YtboeaofcioolnaaDoor
open Go.RowKit

theorem emByteEI : EI Tryd.prog 22 5 1 1 := EI.mk' (z := .int .u8 0) Tryd.underlying22 (by kernel_rfl) rfl (by omega)
theorem em_text_cell {ls : List (List UInt8)} {w : World} {B : Nat} {A : Option Addr} (h : Row w B 1 A ls.length (scells ls)) {k : Nat} (hk : k < ls.length) :
    ∃ b o, A = some ⟨b, o, none⟩ ∧ b < B ∧ w.cell? ⟨b, o + k, none⟩ = some (.string (bs ls[k])) := by
  obtain ⟨b, o, e, hb, hc⟩ := h.at1 (by omega)
  exact ⟨b, o, e, hb, by rw [hc k hk]; simp [scells]⟩
def around : List (List UInt8) := [[], [32], [97], [33], [195, 169], [227, 128, 128], [226, 128, 148], [255], [42], [10]]
theorem around_len : ∀ x ∈ around, x.length ≤ 3 := by decide +kernel
def signs : List (List UInt8) := [[42], [95], [42, 42], [95, 95, 95], [42, 95]]
theorem signs_len : ∀ x ∈ signs, x.length ≤ 3 := by decide +kernel
def tripR : List Em.R := [⟨42, 4611686018427387904, true, false⟩, ⟨42, 4611686018427387904, false, true⟩, ⟨42, -5, false, true⟩]

set_option maxHeartbeats 8000000 in
set_option maxRecDepth 1000000 in
theorem numbers_any (hP : PMatch) (w : World) (hT : Tabs w) :
    Calls Tryd.prog 3 #[] w fun e w' => e = .returned (.bool true) ∧ Below w.heap.size w w' := by
  replace hP := Lib.hid hP
  replace hT := Lib.hid hT
  go_enter Tryd.func3, Tryd.ntmps3
  go_wp2_with fail
  go_loopw [1] (fun n wr => ∃ (k : Nat), k ≤ 33825 ∧ n = .int .i64 k ∧ Below w.heap.size w wr) (fun n _ => 33825 - (intOf n).toNat)
  case atStart => exact ⟨0, by omega, rfl, Below.refl _ _⟩
  case round =>
    obtain ⟨n, hn, rfl, hb⟩ := hrel
    by_cases hlt : n < 33825
    · obtain ⟨wo, rfl⟩ : ∃ wo : World, wo = wr := ⟨_, rfl⟩
      have hzo := hb.size
      go_wp2_with fail
      rw [show decide ((n : Int) < 33825) = true from decide_eq_true (by omega)]
      go_loopw [2, 3] (fun v i wr => ∃ (k : Nat) (l : List UInt8), k + l.length ≤ 33824 ∧ i = .int .i64 k ∧ wr.ownsRow wo.heap.size 5 1 v l.length (bcells l) ∧ Below wo.heap.size wo wr) (fun _ i _ => (intOf i).toNat)
      case atStart => exact ⟨n, [], by simp; omega, rfl, World.ownsRow_nil _ _ _ _, Below.refl _ _⟩
      case round =>
        obtain ⟨k, l, hkl, rfl, hown, hb2⟩ := hrel
        have hz2 := hb2.size
        by_cases hk : 0 < k
        · obtain ⟨m, hm⟩ : ∃ m, (k - 1) % 32 = m := ⟨_, rfl⟩
          have hm16 : m < 32 := by omega
          have hmi : ((k : Int) - 1) % 32 = (m : Int) := by omega
          have hq : Hid (((k : Int) - 1) / 32 = (((k - 1) / 32 : Nat) : Int)) := Lib.hid (by omega)
          have hq2 : (k - 1) / 32 < k := by omega
          have hwk : IntKind.u8.wrap (m : Int) = m := by
            unfold IntKind.wrap; simp [IntKind.bits, IntKind.signed]; omega
          have hx : Hid (((UInt8.ofNat m).toNat : Int) = m) := Lib.hid (by simp; omega)
          clear hm
          go_wp2_with (at_builtin; refine wpList_app_new rfl (.tmp 21) (.tmp 26) rfl emByteEI rfl hown rfl rfl rfl (by simp; rfl) (by omega) (by omega) hz2 ?_; intro v2 w2 hown2 hg2 hb3)
          exact ⟨⟨(k - 1) / 32, l ++ [UInt8.ofNat m], by simp; omega, by rw [hq.out], by
            have e : bcells (l ++ [UInt8.ofNat m]) = bcells l ++ [Value.int .u8 (m : Int)] := by
              simp only [bcells, List.map_append, List.map_cons, List.map_nil, bv]; rw [hx.out]
            rw [e, List.length_append]; exact hown2, hb2.trans hb3⟩, by simp [intOf]; omega⟩
        · have hk0 : k = 0 := by omega
          subst hk0
          obtain ⟨A, c, rfl, hlc⟩ := own_shape hown
          have hRb := Lib.hid (Row.own hown)
          have hom := own_max hown
          replace hb2 := Lib.hid hb2
          clear hown hk
          go_wp2_with fail
          refine (runs_any l A c _ hRb.out hom).mono ?_
          rintro e w3 ⟨⟨v3, rfl, ho3⟩, hb3⟩
          have hT := runsOf_len l
          obtain ⟨T, hTT⟩ : ∃ T, T = runsOf l := ⟨_, rfl⟩
          rw [← hTT] at hT ho3
          clear hTT
          obtain ⟨A3, c3, rfl, hlc3⟩ := own_shape ho3
          have hbo := Lib.hid (ext_trans hb (ext_trans hb2.out hb3))
          replace ho3 := Lib.hid ho3
          clear hRb hb3 hb2 hb
          go_wp2_with fail
          refine (matches_any hP.out T A3 c3 _ (Row.own ho3.out) (by omega)).mono ?_
          rintro e w4 ⟨rfl, hb4⟩
          replace hb4 := Lib.hid (ext_trans hbo.out hb4)
          go_wp2_with fail
          go_roundw
          case rel => exact ⟨n + 1, by omega, by go_num, hb4.out⟩
          case measure => simp [intOf]; omega
    · replace hb := Lib.hid hb
      go_upto_region 12 with fail
      generalize hw2 : World.alloc wr _ = w2
      have hA := Lib.hid (show Row w2 w2.heap.size 1 (some ⟨wr.heap.size, 0, none⟩) 10 (scells around) from by rw [← hw2]; exact row_new wr 9 _ (by decide) (by rfl))
      have hb2 := Lib.hid (show Below w.heap.size w w2 from by rw [← hw2]; exact hb.out.alloc hb.out.size _)
      generalize wr.heap.size = ga at hA ⊢
      clear hw2 hb
      go_wp2_with fail
      go_loopw [35] (fun v wx => ∃ i : Nat, i ≤ 10 ∧ v = .int .i64 (i : Int) ∧ Hid (Below w2.heap.size w2 wx)) (fun v _ => 10 - (intOf v).toNat)
      case atStart => exact ⟨0, by omega, rfl, Lib.hid (Below.refl _ _)⟩
      case round =>
        obtain ⟨i, hi, rfl, hx⟩ := hrel
        by_cases hil : i < 10
        · obtain ⟨wx, rfl⟩ : ∃ u : World, u = wr := ⟨_, rfl⟩
          obtain ⟨b, o, hAe, hbb, hc⟩ := em_text_cell (ls := around) hA.out (k := i) hil
          injection hAe with hAe; injection hAe with e1 e2 _
          subst e1 e2
          have hcx := (hx.out.cell (p := ⟨ga, 0 + i, none⟩) hbb).trans hc
          rw [Nat.zero_add] at hcx
          have hBl := around_len around[i] (List.getElem_mem hil)
          obtain ⟨B, hB⟩ : ∃ B, B = around[i]'hil := ⟨_, rfl⟩
          rw [← hB] at hcx hBl
          clear hB hc
          have hxz := hx.out.size
          go_wp2_with fail
          go_loopw [41] (fun v wy => ∃ j : Nat, j ≤ 10 ∧ v = .int .i64 (j : Int) ∧ Hid (Below w2.heap.size w2 wy)) (fun v _ => 10 - (intOf v).toNat)
          case atStart => exact ⟨0, by omega, rfl, hx⟩
          case round =>
            obtain ⟨j, hj, rfl, hy⟩ := hrel
            by_cases hjl : j < 10
            · obtain ⟨wy, rfl⟩ : ∃ u : World, u = wr := ⟨_, rfl⟩
              obtain ⟨b, o, hAe, hbb, hc⟩ := em_text_cell (ls := around) hA.out (k := j) hjl
              injection hAe with hAe; injection hAe with e1 e2 _
              subst e1 e2
              have hcy := (hy.out.cell (p := ⟨ga, 0 + j, none⟩) hbb).trans hc
              rw [Nat.zero_add] at hcy
              have hCl := around_len around[j] (List.getElem_mem hjl)
              obtain ⟨C, hC⟩ : ∃ C, C = around[j]'hjl := ⟨_, rfl⟩
              rw [← hC] at hcy hCl
              clear hC hc hcx
              have hyz := hy.out.size
              go_upto_region 18 with fail
              go_wp2_with fail
              generalize hw5 : World.alloc wy _ = w5
              have hS := Lib.hid (show Row w5 w5.heap.size 1 (some ⟨wy.heap.size, 0, none⟩) 5 (scells signs) from by rw [← hw5]; exact row_new wy 9 _ (by decide) (by rfl))
              have hy5 := Lib.hid (show Below w2.heap.size w2 w5 from by rw [← hw5]; exact hy.out.alloc hyz _)
              generalize wy.heap.size = gs at hS ⊢
              clear hw5
              go_loopw [47] (fun v wz => ∃ m : Nat, m ≤ 5 ∧ v = .int .i64 (m : Int) ∧ Hid (Below w5.heap.size w5 wz)) (fun v _ => 5 - (intOf v).toNat)
              case atStart => exact ⟨0, by omega, rfl, Lib.hid (Below.refl _ _)⟩
              case round =>
                obtain ⟨m, hm, rfl, hz⟩ := hrel
                clear hcy
                by_cases hml : m < 5
                · obtain ⟨b, o, hAe, hbb, hc⟩ := em_text_cell (ls := signs) hS.out (k := m) hml
                  injection hAe with hAe; injection hAe with e1 e2 _
                  subst e1 e2
                  have hcz := (hz.out.cell (p := ⟨gs, 0 + m, none⟩) hbb).trans hc
                  rw [Nat.zero_add] at hcz
                  have hDl := signs_len signs[m] (List.getElem_mem hml)
                  obtain ⟨D, hD⟩ : ∃ D, D = signs[m]'hml := ⟨_, rfl⟩
                  rw [← hD] at hcz hDl
                  clear hD hc
                  obtain ⟨T1, hT1⟩ : ∃ T, T = B ++ D := ⟨_, rfl⟩
                  obtain ⟨T2, hT2⟩ : ∃ T, T = T1 ++ C := ⟨_, rfl⟩
                  have c1 : bs B ++ bs D = bs T1 := by rw [hT1]; exact bs_append B D
                  have c2 : bs T1 ++ bs C = bs T2 := by rw [hT2]; exact bs_append T1 C
                  have z1 := bs_size B
                  have z2 := bs_size D
                  have z3 := bs_size C
                  have z4 := bs_size T1
                  have l1 : T1.length ≤ 6 := by rw [hT1, List.length_append]; omega
                  have l2 : T2.length ≤ 9 := by rw [hT2, List.length_append]; omega
                  clear hT1 hT2
                  go_wp2_with fail
                  refine (kinds_any T2 _ (by omega) _ (tabs_below hT.out (ext_trans hb2.out (ext_trans hy5.out hz.out)))).mono ?_
                  rintro e w6 ⟨rfl, hb6⟩
                  replace hb6 := Lib.hid (ext_trans hz.out hb6)
                  go_wp2_with fail
                  refine (kinds_any T2 _ (by omega) _ (tabs_below hT.out (ext_trans hb2.out (ext_trans hy5.out hb6.out)))).mono ?_
                  rintro e w7 ⟨rfl, hb7⟩
                  replace hb7 := Lib.hid (ext_trans hb6.out hb7)
                  go_wp2_with fail
                  refine (kinds_any T2 _ (by omega) _ (tabs_below hT.out (ext_trans hb2.out (ext_trans hy5.out hb7.out)))).mono ?_
                  rintro e w8 ⟨rfl, hb8⟩
                  replace hb8 := Lib.hid (ext_trans hb7.out hb8)
                  go_wp2_with fail
                  go_roundw
                  case rel => exact ⟨m + 1, by omega, by go_num, hb8⟩
                  case measure => simp [intOf]; omega
                · have hyy := Lib.hid (ext_trans hy5.out hz.out)
                  go_wp2_with fail
                  go_roundw
                  case rel => exact ⟨j + 1, by omega, by go_num, hyy⟩
                  case measure => simp [intOf]; omega
            · go_wp2_with fail
              go_roundw
              case rel => exact ⟨i + 1, by omega, by go_num, hy⟩
              case measure => simp [intOf]; omega
        · have hbx := Lib.hid (ext_trans hb2.out hx.out)
          go_wp2_with fail
          refine (matches_any hP.out tripR _ _ _ (row_new wr 29 _ (by decide) (by rfl)) (by decide)).mono ?_
          rintro e w3 ⟨rfl, hb3⟩
          replace hb3 := Lib.hid (ext_trans hbx.out (ext_trans (ext_alloc _ _) hb3))
          go_wp2_with fail
          refine (kinds_any [] 0 (by decide) _ (tabs_below hT.out hb3.out)).mono ?_
          rintro e w4 ⟨rfl, hb4⟩
          replace hb4 := Lib.hid (ext_trans hb3.out hb4)
          go_wp2_with fail
          refine (kinds_any [42] 4611686018427387904 (by decide) _ (tabs_below hT.out hb4.out)).mono ?_
          rintro e w5 ⟨rfl, hb5⟩
          replace hb5 := Lib.hid (ext_trans hb4.out hb5)
          go_wp2_with fail
          refine (known_any hP.out _ (tabs_below hT.out hb5.out)).mono ?_
          rintro e w6 ⟨rfl, hb6⟩
          replace hb6 := Lib.hid (ext_trans hb5.out hb6)
          go_wp2_with fail
          go_ret
          exact ⟨rfl, hb6.out⟩
end Go.Proofs.YtboeaofcioolnaaDoor
