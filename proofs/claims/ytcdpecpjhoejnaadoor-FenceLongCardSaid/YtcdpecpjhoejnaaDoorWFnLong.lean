/- FenceLong: a fence as long as Long says ends at no line of its own. -/
import Derived.Test.YtcdpecpjhoejnaaDoorFnSame
import Derived.Test.YtcdpecpjhoejnaaDoorFnMade
import Derived.Test.YtcdpecpjhoejnaaDoorFnLines
namespace Go.Proofs.YtcdpecpjhoejnaaDoor
open Go.RowKit
attribute [local go_sem] canOp readsAs readUpon

set_option maxHeartbeats 8000000 in
set_option maxRecDepth 100000 in
theorem long_law (ls : List (List UInt8)) (A : Option Addr) (c : Nat) (ks : List UInt8) (B : Option Addr) (d : Nat) (w : World)
    (h1 : Row w w.heap.size 1 A ls.length (scells ls)) (_hc : ls.length ≤ c) (hm1 : c ≤ maxLen) (h2 : Row w w.heap.size 1 B ks.length (bcells ks)) (hd : ks.length ≤ d) (hm2 : d ≤ maxLen) :
    Calls Tryd.prog 5 #[.slice A ls.length c, .slice B ks.length d] w fun e w' => e = .returned (.bool true) ∧ Below w.heap.size w w' := by
  have hR := Lib.hid h1
  have hKs := Lib.hid h2
  have hlk : ks.length ≤ 9223372036854775807 := by unfold maxLen at hm2; omega
  have hlm : ls.length ≤ 9223372036854775807 := by unfold maxLen at hm1; omega
  clear h1 h2 hm1 hm2 hd _hc
  go_enter Tryd.func5, Tryd.ntmps5
  go_wp2_with fail
  refine (made_any ks B d _ hKs.out hlk).mono ?_
  rintro e w1 ⟨⟨t0, rfl, h0⟩, hb1⟩
  have hR1 := Lib.hid (hR.out.ext hb1)
  replace hb1 := Lib.hid hb1
  clear hR
  go_wp2_with fail
  go_loopw [5, 6] (fun v u wr => ∃ (fs : List (List UInt8)) (k : Nat), k ≤ ls.length ∧ k ≤ 20 ∧ fs.length = k + 1 ∧ Hid (∀ s ∈ fs, s.length ≤ 200) ∧ u = .int .i64 k ∧ wr.ownsRow w1.heap.size 9 1 v fs.length (scells fs) ∧ Below w1.heap.size w1 wr) (fun _ u _ => ls.length - (intOf u).toNat)
  case atStart => exact ⟨[t0], 0, by omega, by omega, rfl, Lib.hid (by intro s hs; simp at hs; subst hs; omega), rfl, own_lit1 _ _ _, ext_alloc _ _⟩
  case round =>
    obtain ⟨fs, k, hk1, hk2, hfs, hfl, rfl, hown, hb⟩ := hrel
    by_cases hgo : k < ls.length ∧ k < 20
    · obtain ⟨hg1, hg2⟩ := hgo
      obtain ⟨bb, oo, rfl, hbb, hc⟩ := text_cell hR1.out (by omega)
      have hx := hc k hg1
      clear hc
      have hi1 : (k : Int) < (ls.length : Int) := by omega
      obtain ⟨t, ht⟩ : ∃ t, ls[k] = t := ⟨_, rfl⟩
      rw [ht] at hx
      clear ht
      have r1 : Hid (∀ u, Below w1.heap.size w1 u → u.cell? ⟨bb, oo + k, none⟩ = some (.string (bs t))) := Lib.hid (fun u hu => (hu.cell hbb).trans hx)
      have hz := bs_size t
      replace hfs := Lib.hid hfs
      have hup : ∀ w, (Instr.slice 9 (.string (bs t)) none (some (.int .i64 (min (t.length : Int) 200))) none).run Tryd.prog w = .ok (.string (bs (t.take (min t.length 200)))) w := by
        intro w
        have := run_upto (S := t) (i := min t.length 200) (by omega) w
        rwa [show ((min t.length 200 : Nat) : Int) = min (t.length : Int) 200 from by omega] at this
      obtain ⟨q, hq⟩ : ∃ q, t.take (min t.length 200) = q := ⟨_, rfl⟩
      have hql : q.length ≤ 200 := by rw [← hq, List.length_take]; omega
      rw [hq] at hup
      clear hq
      have hsz := hb.size
      go_wp2
      refine wp_region_can [(true, 0), (true, 1), (true, 2), (true, 3), (true, 4), (true, 5), (true, 6), (true, 7), (true, 8), (true, 9), (false, 10), (true, 11), (false, 12), (false, 13), (true, 14)] (fun u => Below w1.heap.size w1 u) hb.drew (by kernel_rfl) (by kernel_rfl) (by kernel_rfl) (fun _ _ d _ _ h => by cases d <;> exact h) ?_
      repeat (first | refine wpCan_move rfl ?_ | (refine wpCan_cons rfl ?_; intro K hK; go_simp; refine hK _ _ _ ?_; clear hK K))
      refine wpCan_read (.string (bs t)) rfl (by go_simp) hb.drew (fun u hu => by have z := r1.out u hu; go_simp) ?_
      repeat (first | refine wpCan_move rfl ?_ | (refine wpCan_cons rfl ?_; intro K hK; go_simp; refine hK _ _ _ ?_; clear hK K))
      refine wpCan_read (.string (bs t)) rfl (by go_simp) hb.drew (fun u hu => by have z := r1.out u hu; go_simp) ?_
      repeat (first | refine wpCan_move rfl ?_ | (refine wpCan_cons rfl ?_; intro K hK; go_simp; refine hK _ _ _ ?_; clear hK K))
      refine wpCan_cons rfl ?_
      intro K hK
      go_simp
      refine can_same hb.drew (hK _ _ _ ?_)
      clear hK K
      repeat (first | refine wpCan_move rfl ?_ | (refine wpCan_cons rfl ?_; intro K hK; go_simp; refine hK _ _ _ ?_; clear hK K))
      refine wpCan_cons rfl ?_
      intro K hK
      go_simp
      refine can_same (hb.drew.alloc hsz _) (hK _ _ _ ?_)
      clear hK K
      refine wpCan_app rfl rfl (.tmp 27) (.tmp 39) rfl textEI rfl ((show wr.drew.ownsRow _ _ _ _ _ _ from hown).alloc _) rfl (Row.fresh wr.drew 9 #[.string (bs q)] (0, 0) (n := 1) (xs := scells [q]) rfl rfl) (scells_one _) (by have := hfs.out; omega) (by omega) (by simp; omega) ?_
      intro v5 w5 hown5 hg5 hb5
      have hS5 := (hb.drew.alloc hsz (.cells #[.string (bs q)] 9)).trans hb5
      refine can_same hS5 ?_
      repeat (first | refine wpCan_move rfl ?_ | (refine wpCan_cons rfl ?_; intro K hK; go_simp; refine hK _ _ _ ?_; clear hK K))
      refine wpCan_nil ?_
      go_wp2
      go_roundw
      case rel => exact ⟨fs ++ [q], k + 1, by omega, by omega, by rw [List.length_append, hfs.out]; rfl, Lib.hid (by
        intro s hs
        rcases List.mem_append.1 hs with hs | hs
        · exact hfl.out s hs
        · simp at hs; subst hs; exact hql), by go_num, by rw [List.length_append]; simpa [scells] using hown5, hS5⟩
      case measure => simp [intOf]; omega
    · have hstop : ls.length ≤ k ∨ k < ls.length ∧ 20 ≤ k := by omega
      obtain ⟨A2, c2, rfl, hc2⟩ := own_shape hown
      have hRf := Lib.hid (Row.own hown)
      have hle := Fn.long_le hfl.out
      have hfl2 : fs.length ≤ 21 := by omega
      have l1 := fun w h => long_any fs A2 c2 w h (by omega) (fun s hs => by have := hfl.out s hs; omega)
      have hnone : Hid (∀ s ∈ fs, Fn.ends 96 (Fn.long fs : Nat) s = false) := Lib.hid (fun s hs => Fn.long_ends hs)
      obtain ⟨N, hN⟩ : ∃ N, Fn.long fs = N := ⟨_, rfl⟩
      rw [hN] at hle l1 hnone
      clear hN hown hgo hfs
      replace hb := Lib.hid (ext_trans hb1.out hb)
      rcases hstop with hst | ⟨hst, hst2⟩
      all_goals
        go_wp2_with fail
        refine (l1 _ hRf.out).mono ?_
        rintro e w' ⟨rfl, rfl⟩
        go_wp2_with fail
        go_loop [8, 9] (fun v u => ∃ j : Nat, j ≤ N ∧ v = .string (bs (List.replicate j 96)) ∧ u = .int .i64 j) (fun _ u => N - (intOf u).toNat)
        case atStart => exact ⟨0, by omega, rfl, rfl⟩
        case round =>
          obtain ⟨j, hj, rfl, rfl⟩ := hrel
          have hzj : (bs (List.replicate j 96)).size = j := by rw [bs_size, List.length_replicate]
          by_cases hjn : j < N
          · have hjk : j < 5000 := by omega
            have htx : Hid (bs (List.replicate j 96) ++ ⟨#[96]⟩ = bs (List.replicate (j + 1) 96)) := Lib.hid (by rw [show (⟨#[96]⟩ : ByteArray) = bs [96] from rfl, bs_append, List.replicate_succ'])
            go_wp2
            go_round
            case rel => exact ⟨j + 1, by omega, by rw [htx.out], by go_num⟩
            case measure => simp [intOf]; omega
          · rw [show j = N from by omega]
            clear hjn hj hzj
            have hle1 := hle.1
            have q1 := fun w => begins_at (List.replicate N 96) _ (some ⟨96, N, 0, []⟩) (.tuple #[.agg #[.int .u8 96, .int .i64 (N : Int), .int .i64 0, .string ⟨#[]⟩], .bool true]) rfl (Fn.self_begins (i := 0) (.inl rfl) (by omega) hle1) rfl (by rw [List.length_replicate]; omega) w
            have q2 := fun w => ends_at 96 (N : Int) 0 ⟨#[]⟩ (List.replicate N 96) _ true (.agg #[.int .u8 96, .int .i64 (N : Int), .int .i64 0, .string ⟨#[]⟩]) rfl (by
              have := Fn.self_ends (i := 0) (k := N) (m := N) (c := 96) (.inl rfl) (by omega) (by omega) [] rfl
              rw [List.append_nil] at this
              rw [show List.replicate N (96 : UInt8) = List.replicate 0 32 ++ List.replicate N 96 from rfl, this, decide_eq_true (by omega)]; rfl) rfl (by rw [List.length_replicate]; omega) w
            go_wp2_with fail
            refine (q1 _).mono ?_
            rintro e w3 ⟨rfl, hb3⟩
            have hR4 := Lib.hid ((hRf.out.ext hb3).ext (ext_alloc w3 (.cells #[.int .u8 96, .int .i64 (N : Int), .int .i64 0, .string ⟨#[]⟩] 28)))
            have f4 : Hid ((w3.alloc (.cells #[.int .u8 96, .int .i64 (N : Int), .int .i64 0, .string ⟨#[]⟩] 28)).heap[w3.heap.size]? = some (.cells #[.int .u8 96, .int .i64 (N : Int), .int .i64 0, .string ⟨#[]⟩] 28)) := Lib.hid (heap_alloc_new w3 _)
            replace hb3 := Lib.hid (ext_trans hb.out (ext_trans hb3 (ext_alloc _ (.cells #[.int .u8 96, .int .i64 (N : Int), .int .i64 0, .string ⟨#[]⟩] 28))))
            obtain ⟨w4, hw4⟩ : ∃ w4, w4 = w3.alloc (.cells #[.int .u8 96, .int .i64 (N : Int), .int .i64 0, .string ⟨#[]⟩] 28) := ⟨_, rfl⟩
            go_wp2_with fail
            rw [← hw4] at hR4 f4 hb3 ⊢
            clear hw4
            go_loopw [61] (fun u wr => ∃ k2 : Nat, k2 ≤ fs.length ∧ u = .int .i64 k2 ∧ Below w4.heap.size w4 wr) (fun u _ => fs.length - (intOf u).toNat)
            case atStart => exact ⟨0, by omega, rfl, Below.refl _ _⟩
            case round =>
              obtain ⟨k2, hk2, rfl, hb4⟩ := hrel
              by_cases hlt : k2 < fs.length
              · obtain ⟨bb, oo, rfl, hbb, hc⟩ := text_cell hR4.out (by omega)
                have hx := (hb4.cell hbb).trans (hc k2 hlt)
                clear hc
                have e1 := fun w => ends_at 96 (N : Int) 0 ⟨#[]⟩ fs[k2] _ false (.agg #[.int .u8 96, .int .i64 (N : Int), .int .i64 0, .string ⟨#[]⟩]) rfl (hnone.out _ (List.getElem_mem hlt)) rfl (by have := hfl.out _ (List.getElem_mem hlt); omega) w
                obtain ⟨t, ht⟩ : ∃ t, fs[k2] = t := ⟨_, rfl⟩
                rw [ht] at hx e1
                clear ht
                obtain ⟨a0, a1, a2, a3⟩ := four (keep f4.out hb4).1
                go_wp2_with fail
                refine (e1 _).mono ?_
                rintro e w5 ⟨rfl, hb5⟩
                replace hb5 := Lib.hid (ext_trans hb4 hb5)
                go_wp2
                go_roundw
                case rel => exact ⟨k2 + 1, by omega, by go_num, hb5.out⟩
                case measure => simp [intOf]; omega
              · obtain ⟨a0, a1, a2, a3⟩ := four (keep f4.out hb4).1
                have hmin : min (N : Int) 5000 = (N : Int) := by omega
                have hge : decide ((3 : Int) ≤ (N : Int)) = true := by simp; omega
                have f5 := Lib.hid (keep f4.out hb4).1
                replace hb4 := Lib.hid (ext_trans hb3.out hb4)
                go_wp2_with fail
                refine (q2 _).mono ?_
                rintro e w6 ⟨rfl, hb6⟩
                clear a0 a1 a2 a3
                obtain ⟨b0, b1, b2, b3⟩ := four (keep f5.out hb6).1
                replace hb6 := Lib.hid (ext_trans hb4.out hb6)
                go_wp2_with fail
                refine (known_any _).mono ?_
                rintro e w7 ⟨rfl, hb7⟩
                replace hb7 := Lib.hid (ext_trans hb6.out hb7)
                go_wp2
                go_returns
                exact ⟨by first | rfl | simp, hb7.out⟩
end Go.Proofs.YtcdpecpjhoejnaaDoor
