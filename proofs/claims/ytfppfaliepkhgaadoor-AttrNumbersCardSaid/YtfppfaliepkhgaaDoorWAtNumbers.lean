/- AttrNumbers: the closed sentence: chapter 5's runs, all rows of up to three of sixteen pieces. No condition. -/
import Derived.Test.YtfppfaliepkhgaaDoorAtSame
import Derived.Test.YtfppfaliepkhgaaDoorAtMade
import Derived.Test.YtfppfaliepkhgaaDoorAtKnown
import Derived.ProofKit
namespace Go.Proofs.YtfppfaliepkhgaaDoor
open Go.RowKit

theorem byteEI : EI Tryd.prog 22 5 1 1 := EI.mk' (z := .int .u8 0) Tryd.underlying22 (by kernel_rfl) rfl (by omega)

set_option maxHeartbeats 4000000 in
set_option maxRecDepth 100000 in
theorem numbers_any (w : World) (hT : Tabs w) :
    Calls Tryd.prog 3 #[] w fun e w' => e = .returned (.bool true) ∧ Below w.heap.size w w' := by
  replace hT := Lib.hid hT
  go_enter Tryd.func3, Tryd.ntmps3
  go_wp2_with fail
  go_loopw [1] (fun n wr => ∃ (k : Nat), k ≤ 4369 ∧ n = .int .i64 k ∧ Below w.heap.size w wr) (fun n _ => 4369 - (intOf n).toNat)
  case atStart => exact ⟨0, by omega, rfl, Below.refl _ _⟩
  case round =>
    obtain ⟨n, hn, rfl, hb⟩ := hrel
    by_cases hlt : n < 4369
    · obtain ⟨wo, rfl⟩ : ∃ wo : World, wo = wr := ⟨_, rfl⟩
      have hzo := hb.size
      go_wp2_with fail
      go_loopw [2, 3] (fun v i wr => ∃ (k : Nat) (l : List UInt8), k + l.length ≤ 4368 ∧ i = .int .i64 k ∧ wr.ownsRow wo.heap.size 5 1 v l.length (bcells l) ∧ Below wo.heap.size wo wr) (fun _ i _ => (intOf i).toNat)
      case atStart => exact ⟨n, [], by simp; omega, rfl, World.ownsRow_nil _ _ _ _, Below.refl _ _⟩
      case round =>
        obtain ⟨k, l, hkl, rfl, hown, hb2⟩ := hrel
        have hz2 := hb2.size
        by_cases hk : 0 < k
        · obtain ⟨m, hm⟩ : ∃ m, (k - 1) % 16 = m := ⟨_, rfl⟩
          have hm16 : m < 16 := by omega
          have hmi : ((k : Int) - 1) % 16 = (m : Int) := by omega
          have hq : Hid (((k : Int) - 1) / 16 = (((k - 1) / 16 : Nat) : Int)) := Lib.hid (by omega)
          have hq2 : (k - 1) / 16 < k := by omega
          have hwk : IntKind.u8.wrap (m : Int) = m := by
            unfold IntKind.wrap; simp [IntKind.bits, IntKind.signed]; omega
          have hx : Hid (((UInt8.ofNat m).toNat : Int) = m) := Lib.hid (by simp; omega)
          clear hm
          go_wp2_with (at_builtin; refine wpList_app_new rfl (.tmp 16) (.tmp 21) rfl byteEI rfl hown rfl rfl rfl (by simp; rfl) (by omega) (by omega) hz2 ?_; intro v2 w2 hown2 hg2 hb3)
          exact ⟨⟨(k - 1) / 16, l ++ [UInt8.ofNat m], by simp; omega, hq.out, by
            have e : bcells (l ++ [UInt8.ofNat m]) = bcells l ++ [Value.int .u8 (m : Int)] := by
              simp only [bcells, List.map_append, List.map_cons, List.map_nil, bv]; rw [hx.out]
            rw [e, List.length_append]; exact hown2, hb2.trans hb3⟩, by simp [intOf]; omega⟩
        · have hk0 : k = 0 := by omega
          subst hk0
          obtain ⟨A, c, rfl, hlc⟩ := own_shape hown
          have hRb := Row.own hown
          have hom := own_max hown
          have hml := md_all l
          replace hb2 := Lib.hid hb2
          obtain ⟨T, hTT⟩ : ∃ T, md 24 l = T := ⟨_, rfl⟩
          have hmd := fun w h => made_fn l A c w h hom
          rw [hTT] at hml hmd
          have a1 : (⟨#[103, 111, 32, 110, 97, 109, 101, 61]⟩ : ByteArray) ++ bs T = bs ([103, 111, 32, 110, 97, 109, 101, 61] ++ T) := bs_append [103, 111, 32, 110, 97, 109, 101, 61] T
          have a2 : (⟨#[102, 105, 108, 101, 61, 34]⟩ : ByteArray) ++ bs T = bs ([102, 105, 108, 101, 61, 34] ++ T) := bs_append [102, 105, 108, 101, 61, 34] T
          have a3 : bs ([102, 105, 108, 101, 61, 34] ++ T) ++ (⟨#[34]⟩ : ByteArray) = bs ([102, 105, 108, 101, 61, 34] ++ T ++ [34]) := bs_append ([102, 105, 108, 101, 61, 34] ++ T) [34]
          have n0 := bs_size T
          have n1 := bs_size ([103, 111, 32, 110, 97, 109, 101, 61] ++ T)
          have n2 := bs_size ([102, 105, 108, 101, 61, 34] ++ T)
          have n3 := bs_size ([102, 105, 108, 101, 61, 34] ++ T ++ [34])
          simp only [List.length_append, List.length_cons, List.length_nil] at n1 n2 n3
          obtain ⟨T1, hT1⟩ : ∃ T1, [103, 111, 32, 110, 97, 109, 101, 61] ++ T = T1 := ⟨_, rfl⟩
          obtain ⟨T2, hT2⟩ : ∃ T2, [102, 105, 108, 101, 61, 34] ++ T = T2 := ⟨_, rfl⟩
          obtain ⟨T3, hT3⟩ : ∃ T3, T2 ++ [34] = T3 := ⟨_, rfl⟩
          have l1 : T1.length ≤ 1000000000 := by rw [← hT1]; simp; omega
          have l3 : T3.length ≤ 1000000000 := by rw [← hT3, ← hT2]; simp; omega
          rw [hT1] at a1 n1
          rw [hT2] at a2 a3 n2 n3
          rw [hT3] at a3 n3
          have s0 := fun w h => same_any T w (by omega) h
          have s1 := fun w h => same_any T1 w l1 h
          have s3 := fun w h => same_any T3 w l3 h
          have hBo := Lib.hid (ext_trans hb hb2.out)
          clear hown hk hTT hT1 hT2 hT3 l1 l3 hb
          go_wp2_with fail
          refine (hmd _ hRb).mono ?_
          rintro e w3 ⟨rfl, hb3⟩
          have hR3 := hRb.ext hb3
          have hB3 := Lib.hid (ext_trans hBo.out hb3)
          clear hRb hb3 hBo
          go_wp2_with fail
          refine (s0 _ (tabs_ext hT.out hB3.out)).mono ?_
          rintro e w4 ⟨rfl, hb4⟩
          have hR4 := hR3.ext hb4
          have hB4 := Lib.hid (ext_trans hB3.out hb4)
          clear hR3 hb4 hB3 s0
          go_wp2_with fail
          refine (hmd _ hR4).mono ?_
          rintro e w5 ⟨rfl, hb5⟩
          have hR5 := hR4.ext hb5
          have hB5 := Lib.hid (ext_trans hB4.out hb5)
          clear hR4 hb5 hB4
          go_wp2_with fail
          refine (s1 _ (tabs_ext hT.out hB5.out)).mono ?_
          rintro e w6 ⟨rfl, hb6⟩
          have hR6 := hR5.ext hb6
          have hB6 := Lib.hid (ext_trans hB5.out hb6)
          clear hR5 hb6 hB5 s1
          go_wp2_with fail
          refine (hmd _ hR6).mono ?_
          rintro e w7 ⟨rfl, hb7⟩
          have hB7 := Lib.hid (ext_trans hB6.out hb7)
          clear hR6 hb7 hB6 hmd
          go_wp2_with fail
          refine (s3 _ (tabs_ext hT.out hB7.out)).mono ?_
          rintro e w8 ⟨rfl, hb8⟩
          have hB8 := ext_trans hB7.out hb8
          clear hb8 hB7 s3
          go_wp2_with fail
          go_roundw
          case rel => exact ⟨n + 1, by omega, by go_num, hB8⟩
          case measure => simp [intOf]; omega
    · obtain ⟨wo, rfl⟩ : ∃ wo : World, wo = wr := ⟨_, rfl⟩
      go_wp2_with fail
      go_loopw [4, 5] (fun v i wr => ∃ (k : Nat) (t : List UInt8), k ≤ 63 ∧ t.length = k ∧ v = .string (bs t) ∧ i = .int .i64 k ∧ Below w.heap.size w wr) (fun _ i _ => 63 - (intOf i).toNat)
      case atStart => exact ⟨0, [], by omega, rfl, rfl, rfl, hb⟩
      case round =>
        obtain ⟨k, t, hk, hl, rfl, rfl, hb2⟩ := hrel
        by_cases hk2 : k < 63
        · have a1 : (⟨#[110, 97, 109, 101, 61]⟩ : ByteArray) ++ bs t = bs ([110, 97, 109, 101, 61] ++ t) := bs_append [110, 97, 109, 101, 61] t
          have a2 : bs t ++ (⟨#[110]⟩ : ByteArray) = bs (t ++ [110]) := bs_append t [110]
          have n0 := bs_size t
          have n1 := bs_size ([110, 97, 109, 101, 61] ++ t)
          simp only [List.length_append, List.length_cons, List.length_nil] at n1
          obtain ⟨T1, hT1⟩ : ∃ T1, [110, 97, 109, 101, 61] ++ t = T1 := ⟨_, rfl⟩
          have l1 : T1.length ≤ 1000000000 := by rw [← hT1]; simp; omega
          rw [hT1] at a1 n1
          have s0 := fun w h => same_any t w (by omega) h
          have s1 := fun w h => same_any T1 w l1 h
          replace hb2 := Lib.hid hb2
          clear hT1 l1
          go_wp2_with fail
          refine (s1 _ (tabs_ext hT.out hb2.out)).mono ?_
          rintro e w6 ⟨rfl, hb6⟩
          have hB6 := Lib.hid (ext_trans hb2.out hb6)
          clear hb6 hb2 s1
          go_wp2_with fail
          refine (s0 _ (tabs_ext hT.out hB6.out)).mono ?_
          rintro e w7 ⟨rfl, hb7⟩
          have hB7 := ext_trans hB6.out hb7
          go_wp2_with fail
          go_roundw
          case rel => exact ⟨k + 1, t ++ [110], by omega, by simp; omega, rfl, by go_num, hB7⟩
          case measure => simp [intOf]; omega
        · go_wp2_with fail
          refine (known_fn _ (tabs_ext hT.out hb2)).mono ?_
          rintro e w9 ⟨rfl, hb9⟩
          go_wp2_with fail
          go_returns
          exact ⟨rfl, ext_trans hb2 hb9⟩
end Go.Proofs.YtfppfaliepkhgaaDoor
