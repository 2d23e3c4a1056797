/- EscSteps: step by step a text comes to its end, each time further. -/
import Derived.Test.YtfhpijeadchnnaaEsMade
import Derived.Test.YtfhpijeadchnnaaCanon
namespace Go.Proofs.Ytfhpijeadchnnaa
open Go.RowKit
attribute [local go_sem] canOp readsAs readUpon

set_option maxHeartbeats 8000000 in
set_option maxRecDepth 100000 in
theorem steps_any (l ks : List UInt8) (A : Option Addr) (c : Nat) (w : World) (h : Row w w.heap.size 1 A ks.length (bcells ks)) (hl : l.length ≤ 100000000) (hk : ks.length ≤ 9223372036854775807) (hT : EsT w) :
    Calls Try.prog 6 #[.string (bs l), .slice A ks.length c] w fun e w' => e = .returned (.bool true) ∧ Below w.heap.size w w' := by
  have hR := Lib.hid h
  replace hT := Lib.hid hT
  clear h
  go_enter Try.func6, Try.ntmps6
  go_wp2_with fail
  go_loopw [0, 5] (fun v j wr => ∃ (t : List UInt8) (i : Nat), i ≤ ks.length ∧ i ≤ 30 ∧ t.length ≤ l.length + 2 * i ∧ v = .string (bs t) ∧ j = .int .i64 i ∧ Below w.heap.size w wr) (fun _ j _ => ks.length - (intOf j).toNat)
  case atStart => exact ⟨l, 0, Nat.zero_le _, Nat.zero_le _, by omega, rfl, rfl, Below.refl _ _⟩
  case round =>
    obtain ⟨t, i, hk1, hk2, ht, rfl, rfl, hb⟩ := hrel
    have hz1 := bs_size t
    by_cases hgo : i < ks.length ∧ i < 30
    · obtain ⟨hg1, hg2⟩ := hgo
      obtain ⟨b, o, rfl, hbb, hc⟩ := kcell hR.out (by omega)
      have hx : wr.cell? ⟨b, o + i, none⟩ = some (.int .u8 (ks[i].toNat : Int)) := (hb.cell hbb).trans (hc _ hg1)
      clear hc
      have hbw : b < wr.heap.size := Nat.lt_of_lt_of_le hbb hb.size
      have hend := Lib.hid (show ∀ o, Below w.heap.size w (wr.alloc o) from fun o => hb.trans ((Below.refl _ _).alloc hb.size _))
      have c0 := lit_cat t [92] ⟨#[92]⟩ rfl
      have c1 := lit_cat t [42] ⟨#[42]⟩ rfl
      have c2 := lit_cat t [97] ⟨#[97]⟩ rfl
      have c3 := lit_cat t [195, 169] ⟨#[195, 169]⟩ rfl
      have c4 := lit_cat t [60] ⟨#[60]⟩ rfl
      have c5 := lit_cat t [255] ⟨#[255]⟩ rfl
      have c6 := lit_cat t [34] ⟨#[34]⟩ rfl
      have c7 := lit_cat t [38] ⟨#[38]⟩ rfl
      rcases eight ks[i] with hq | hq | hq | hq | hq | hq | hq | hq
      all_goals
        go_wp2_with fail
        go_roundw
        case rel => exact ⟨_, i + 1, hg1, hg2, by simp; omega, rfl, by go_num, hend.out _⟩
        case measure => simp [intOf]; omega
    · have hstop : ks.length ≤ i ∨ i < ks.length ∧ 30 ≤ i := by omega
      clear hgo
      have hT1 := Lib.hid (est_ext hT.out hb)
      obtain ⟨S, hS⟩ : ∃ S, S = t := ⟨_, rfl⟩
      rw [← hS] at hz1 ht ⊢
      clear hS
      have hSl : S.length ≤ 200000000 := by omega
      clear ht
      obtain ⟨w1, rfl⟩ : ∃ w1 : World, w1 = wr := ⟨_, rfl⟩
      replace hb := Lib.hid hb
      rcases hstop with hst | ⟨hst, hst2⟩
      all_goals
        go_wp2_with fail
        go_loopw [6, 7, 8, 9, 10] (fun i v _ _ _ wr => ∃ (k : Nat) (D : List Nat), k ≤ S.length ∧ D.length ≤ k ∧ i = .int .i64 k ∧ Hid (D ++ Es.plain (S.drop k) = Es.plain S) ∧ wr.ownsRow w1.heap.size 21 1 v D.length (rcells D) ∧ Below w1.heap.size w1 wr)
          (fun i _ _ _ _ _ => S.length - (intOf i).toNat)
        case atStart => exact ⟨0, [], Nat.zero_le _, Nat.zero_le _, rfl, Lib.hid rfl, World.ownsRow_nil _ _ _ _, Below.refl _ _⟩
        case round =>
          obtain ⟨k, D, hk3, hDk, rfl, hD, hown, hb2⟩ := hrel
          have hT2 := Lib.hid (est_ext hT1.out hb2)
          by_cases hp : k < S.length
          · obtain ⟨hm1, hm2⟩ := Es.next_more hp
            have hm3 := @Es.next_two S k
            have hD2 : Hid ((D ++ [(Es.next S k).1]) ++ Es.plain (S.drop (Es.next S k).2.1) = Es.plain S) := Lib.hid (by rw [← hD.out, Es.plain_at hp, List.append_assoc]; rfl)
            have hV : nextV S k = .tuple #[.int .i32 ((Es.next S k).1 : Int), .int .i64 ((Es.next S k).2.1 : Int), .bool (Es.next S k).2.2] := rfl
            have hcall := fun w hT => pnext_any S (k : Int) (by omega) w hT
            rw [show ((k : Int)).toNat = k from by omega, hV] at hcall
            clear hV
            obtain ⟨x, hx⟩ : ∃ x, x = (Es.next S k).1 := ⟨_, rfl⟩
            obtain ⟨n, hn⟩ : ∃ n, n = (Es.next S k).2.1 := ⟨_, rfl⟩
            obtain ⟨o, ho⟩ : ∃ o, o = (Es.next S k).2.2 := ⟨_, rfl⟩
            rw [← hx, ← hn, ← ho] at hcall
            rw [← hx, ← hn] at hD2
            rw [← hn] at hm1 hm2
            rw [← hn, ← ho] at hm3
            clear hx hn ho
            have hoo : o = true ∧ n = k + 2 ∨ o = false := by
              cases o with
              | true => exact .inl ⟨rfl, hm3 rfl⟩
              | false => exact .inr rfl
            clear hm3
            go_wp2_with fail
            refine (hcall _ hT2.out).mono ?_
            rintro e w2 ⟨rfl, hb3⟩
            clear hcall
            have hown1 := own_below hown hb3
            have hb1' := hb2.trans (hb3.mono hb2.size)
            clear hown
            have hz2 : w1.heap.size ≤ w2.heap.size := hb1'.size
            replace hb1' := Lib.hid hb1'
            rcases hoo with ⟨rfl, hn2⟩ | rfl
            · have e1 : ((n : Int) != (k : Int) + 2) = false := by simp; omega
              go_wp2_with (at_builtin; refine wpList_app_new rfl (.tmp 63) (.tmp 65) rfl runeEI rfl hown1 rfl rfl rfl (by simp; rfl) (by omega) (by omega) hz2 ?_; intro v2 w3 hown3 hg hb4)
              go_roundw
              case rel => exact ⟨n, D ++ [x], hm2, by simp; omega, by rw [show ((k : Int) + 2) = n by omega], hD2, by simpa [rcells] using hown3, hb1'.out.trans hb4⟩
              case measure => simp [intOf]; omega
            · go_wp2_with (at_builtin; refine wpList_app_new rfl (.tmp 63) (.tmp 65) rfl runeEI rfl hown1 rfl rfl rfl (by simp; rfl) (by omega) (by omega) hz2 ?_; intro v2 w3 hown3 hg hb4)
              go_roundw
              case rel => exact ⟨n, D ++ [x], hm2, by simp; omega, rfl, hD2, by simpa [rcells] using hown3, hb1'.out.trans hb4⟩
              case measure => simp [intOf]; omega
          · have hke : k = S.length := by omega
            subst hke
            have hDe : D = Es.plain S := by
              rw [← hD.out, List.drop_eq_nil_of_le (by omega), Es.plain_nil, List.append_nil]
            subst hDe
            clear hD
            have hcall := fun w hT => pnext_any S (S.length : Int) (by omega) w hT
            rw [show ((S.length : Int)).toNat = S.length from by omega, nextV_out (Nat.le_refl _)] at hcall
            obtain ⟨A1, c1, rfl, hc1⟩ := own_shape hown
            have hR1 := Lib.hid (Row.own hown)
            clear hown
            replace hb2 := Lib.hid hb2
            go_wp2_with fail
            refine (hcall _ hT2.out).mono ?_
            rintro e w2 ⟨rfl, hb3⟩
            clear hcall
            have hT3 := Lib.hid (est_ext hT2.out hb3)
            have hR2 := Lib.hid (hR1.out.ext hb3)
            replace hb3 := Lib.hid (ext_trans (hb.out.trans (hb2.out.mono hb.out.size)) hb3)
            go_wp2_with fail
            refine wp_region_can [(true, 0), (true, 2), (true, 3), (false, 1), (true, 4), (true, 5), (true, 6), (true, 7), (true, 8), (true, 9), (true, 10), (true, 11), (true, 12), (true, 13), (true, 14), (true, 15), (false, 16), (true, 17), (true, 18)] (Ext w2) (ext_drew _) (by kernel_rfl) (by kernel_rfl) (by kernel_rfl) (fun _ _ d _ _ h => by cases d <;> exact h) ?_
            have hcv : ∀ w', Ext w2 w' → _ := fun w' hw' => run_runes (c := c1) (hR2.out.ext hw') 31 21 9 Try.underlying31 Try.underlying21 Try.underlying9
            replace hcv := Lib.hid hcv
            repeat (first | refine wpCan_move rfl ?_ | (refine wpCan_cons rfl ?_; intro K hK; go_simp; refine hK _ _ _ ?_; clear hK K))
            have hcv' := hcv.out w2.drew (ext_drew w2)
            refine wpCan_cons rfl ?_
            intro K hK
            go_simp
            refine ⟨fun w' hw' => by rw [hcv.out w' hw']; exact ⟨rfl, rfl⟩, hK _ _ _ ?_⟩
            clear hK K hcv'
            refine wpCan_cons rfl ?_
            intro K hK
            go_simp
            refine (pplain_any S _ (by omega) (est_ext hT3.out (ext_drew w2))).mono ?_
            rintro e w3 ⟨rfl, hb4⟩
            replace hb4 := ext_trans (ext_drew w2) hb4
            have hT4 := Lib.hid (est_ext hT3.out hb4)
            replace hb3 := Lib.hid (ext_trans hb3.out hb4)
            refine can_ext hb4 (hK _ _ _ ?_)
            clear hK K hb4 hcv
            repeat (first | refine wpCan_move rfl ?_ | (refine wpCan_cons rfl ?_; intro K hK; go_simp; refine hK _ _ _ ?_; clear hK K))
            refine wpCan_cons rfl ?_
            intro K hK
            go_simp
            refine (known_any _ hT4.out).mono ?_
            rintro e w4 ⟨rfl, hb5⟩
            replace hb3 := Lib.hid (ext_trans hb3.out hb5)
            refine can_ext hb5 (hK _ _ _ ?_)
            clear hK K hb5
            repeat (first | refine wpCan_move rfl ?_ | (refine wpCan_cons rfl ?_; intro K hK; go_simp; refine hK _ _ _ ?_; clear hK K))
            refine wpCan_nil ?_
            go_wp2
            go_returns
            exact ⟨rfl, hb3.out⟩

theorem steps_small (l ks : List UInt8) (A : Option Addr) (c : Nat) (w : World) (h : Row w w.heap.size 1 A ks.length (bcells ks)) (_hc : ks.length ≤ c) (hk : l.length + ks.length ≤ 1048576) :
    Calls Try.prog 6 #[.string (bs l), .slice A ks.length c] w fun e w' => e = .returned (.bool true) ∧ Below w.heap.size w w' :=
  steps_any l ks A c w h (by omega) (by omega) trivial
end Go.Proofs.Ytfhpijeadchnnaa
