/- LineWhole: lines lie one behind the other, and are all; texts that are joined are the texts. -/
import Derived.Test.YtbddmnhmfmkbhaaKnown
import Derived.Test.YtbddmnhmfmkbhaaLnWhole
import Derived.Test.YtbddmnhmfmkbhaaOpen
import Derived.Deep.DeepCutAuto
import Derived.Deep.CutBlock
import Derived.Lib.OthersKept
namespace Go.Proofs.Ytbddmnhmfmkbhaa
open Go.RowKit Go.Lib

set_option maxRecDepth 100000 in
set_option maxHeartbeats 4000000 in
theorem whole_any (l0 : List UInt8) (A0 : Option Addr) (c0 : Nat) (l1 : List (List UInt8)) (A1 : Option Addr) (c1 : Nat) (w : World)
    (h0 : Row w w.heap.size 1 A0 l0.length (bcells l0)) (_hc0 : l0.length ≤ c0) (h1 : Row w w.heap.size 1 A1 l1.length (scells l1)) (_hc1 : l1.length ≤ c1) (hkb : l0.length + heft l1 ≤ 1048576) :
    Calls Try.prog 5 #[.slice A0 l0.length c0, .slice A1 l1.length c1] w fun e w' => e = .returned (.bool true) ∧ Below w.heap.size w w' := by
  have hR0 := Lib.hid h0
  have hR1 := Lib.hid h1
  have hh := heft_len l1
  clear h0 h1
  go_enter Try.func5, Try.ntmps5
  go_upto_block 0 with fail
  go_cut [5] (fun v wx => ∃ l : List UInt8, l.length ≤ 80 ∧ wx.ownsRow w.heap.size 5 1 v l.length (bcells l) ∧ Below w.heap.size w wx)
  case first =>
    go_wp2_with fail
    go_loopw [5, 6] (fun v i wr => ∃ (l : List UInt8), l.length ≤ l0.length ∧ l.length ≤ 80 ∧ i = .int .i64 l.length ∧ wr.ownsRow w.heap.size 5 1 v l.length (bcells l) ∧ Below w.heap.size w wr)
      (fun _ i _ => l0.length - (intOf i).toNat)
    case atStart => exact ⟨[], Nat.zero_le _, Nat.zero_le _, rfl, World.ownsRow_nil _ _ _ _, Below.refl _ _⟩
    case round =>
      obtain ⟨l, hk1, hk2, rfl, hown, hb⟩ := hrel
      have hz := hb.size
      by_cases hgo : l.length < l0.length ∧ l.length < 80
      · obtain ⟨hg1, hg2⟩ := hgo
        obtain ⟨b, o, rfl, hbb, hc⟩ := byte_cell hR0.out (by omega)
        have hx : wr.cell? ⟨b, o + l.length, none⟩ = some (.int .u8 (l0[l.length].toNat : Int)) := (hb.cell hbb).trans (hc _ hg1)
        clear hc
        obtain ⟨x, hpk⟩ := run_pick (P := Try.prog) 9 Try.underlying9 ⟨#[97, 98, 10, 13]⟩ l0[l.length] 2 3 rfl (by omega) (by decide)
        go_wp2_with (at_builtin; refine wpList_app_new rfl (.tmp 27) (.tmp 34) rfl byteEI rfl hown rfl rfl rfl (by simp; rfl) (by omega) (by omega) hz ?_; intro v2 w2 hown2 hg2 hb2)
        go_roundw
        case rel => exact ⟨l ++ [x], by simp; omega, by simp; omega, by simp, by simpa [bcells, bv] using hown2, hb.trans hb2⟩
        case measure => simp [intOf]; omega
      · have hstop : l0.length ≤ l.length ∨ l.length < l0.length ∧ 80 ≤ l.length := by omega
        clear hgo
        rcases hstop with hst | ⟨hst, hst2⟩
        all_goals
          go_wp2_with fail
          go_meet
          case rel => exact ⟨l, hk2, hown, hb⟩
  case rest =>
    obtain ⟨l, hl, hown, hb⟩ := hcut
    obtain ⟨Ab, cb, rfl, hcb⟩ := own_shape hown
    have hRb := Lib.hid (Row.own hown)
    have hbh := Lib.hid hb
    have hR1' := Lib.hid ((hR1.out.below hb).more hb.size)
    clear hown hb hR0 hR1
    go_wp2_with fail
    refine (split_any l _ cb _ hRb.out (by omega)).mono ?_
    rintro e w1 ⟨v1, rfl, ho1, hb1⟩
    have hb1' := Lib.hid (ext_trans hbh.out hb1)
    have hR1b := Lib.hid (hR1'.out.ext hb1)
    obtain ⟨A1', c1', rfl, hc1'⟩ := own_shape ho1
    have hL1 := Lib.hid (Row.own ho1)
    have hRb1 := Lib.hid (hRb.out.ext hb1)
    have hll := Ln.lines_len l 0
    clear ho1 hb1
    go_wp2_with fail
    go_loopw [7, 39] (fun at_ i wr => ∃ (k p : Nat), k ≤ (Ln.lines l 0).length ∧ at_ = .int .i64 p ∧ i = .int .i64 k ∧ Hid ((Ln.places l 0)[k]? = some p) ∧ Below w1.heap.size w1 wr)
      (fun _ i _ => (Ln.lines l 0).length - (intOf i).toNat)
    case atStart => exact ⟨0, 0, Nat.zero_le _, rfl, rfl, Lib.hid (Ln.places_first l), Below.refl _ _⟩
    case round =>
      obtain ⟨k, p, hk, rfl, rfl, hp, hb⟩ := hrel
      have hz := hb.size
      rcases Nat.lt_or_eq_of_le hk with hlt | hke
      · obtain ⟨b, o, rfl, hbb, hc⟩ := line_cell hL1.out (by omega)
        obtain ⟨lo, hi, nx, hx⟩ : ∃ lo hi nx, (Ln.lines l 0)[k] = (lo, hi, nx) := ⟨_, _, _, rfl⟩
        obtain ⟨g1, g2, g3⟩ := Ln.lines_within l 0 _ (List.getElem_mem hlt)
        obtain ⟨g4, g5⟩ := Ln.lines_good l 0 _ (List.getElem_mem hlt)
        have g6 := Ln.places_next hlt
        have g7 := Ln.places_at hlt
        obtain ⟨q0, q1, q2⟩ := hc k hlt
        rw [hx] at q0 q1 q2 g1 g2 g3 g4 g5 g6 g7
        have hpl : p = lo := by have := hp.out; rw [g7] at this; injection this with this; exact this.symm
        subst hpl
        have g6 := Lib.hid g6
        have g5 := Lib.hid g5
        have s0 : wr.cell? ⟨b, o + k * 3, none⟩ = some (.int .i64 (p : Nat)) := (hb.cell hbb).trans q0
        have s1 : wr.cell? ⟨b, o + k * 3 + 1, none⟩ = some (.int .i64 (hi : Nat)) := (hb.cell hbb).trans q1
        have s2 : wr.cell? ⟨b, o + k * 3 + 2, none⟩ = some (.int .i64 (nx : Nat)) := (hb.cell hbb).trans q2
        have u1 : p ≤ hi := g1
        have u2 : hi ≤ nx := g2
        have u3 : nx ≤ l.length := g3
        have u4 : p < nx := g4
        have une : ((nx : Int) == (p : Int)) = false := by simp; omega
        have hsl := run_cut underB 1 sizeU8 Ab l.length cb _ _ u1 (by omega)
        have hRs := Lib.hid ((((hRb1.out.ext hb).alloc (Nat.le_refl _) (.cells #[.int .i64 p, .int .i64 hi, .int .i64 nx] 31)).sub u1 (by omega) hcb))
        clear hc q0 q1 q2 g1 g2 g3 g4 g7 hx hp
        obtain ⟨wo, rfl⟩ : ∃ wo : World, wo = wr := ⟨_, rfl⟩
        go_wp2_with fail
        go_loop [82] (fun i => ∃ j : Nat, j ≤ hi - p ∧ i = .int .i64 j) (fun i => (hi - p) - (intOf i).toNat)
        case atStart => exact ⟨0, Nat.zero_le _, rfl⟩
        case round =>
          obtain ⟨j, hj, rfl⟩ := hrel
          rcases Nat.lt_or_eq_of_le hj with hjl | rfl
          · have hml : (mid l p hi).length = hi - p := mid_len (by omega)
            obtain ⟨b', o', hA, hbb', hc'⟩ := byte_cell (l := mid l p hi) (by rw [hml]; exact hRs.out) (by omega)
            have hjm : j < (mid l p hi).length := by omega
            have hcj := hc' j hjm
            obtain ⟨t10, t13⟩ := noend_tests (x := (mid l p hi)[j]) (by rw [g5.out _ (List.getElem_mem hjm)]; simp)
            have t10' : (((mid l p hi)[j].toNat : Int) == 10) = false := by simpa using t10
            have t13' : (((mid l p hi)[j].toNat : Int) == 13) = false := by simpa using t13
            generalize (mid l p hi)[j] = x at hcj t10' t13'
            clear hc' t10 t13 hml hjm
            go_wp2
            go_round
            case rel => exact ⟨j + 1, by omega, by go_num⟩
            case measure => simp [intOf]; omega
          · have hbz := (hb.alloc hz (.cells #[.int .i64 p, .int .i64 hi, .int .i64 nx] 31))
            clear hb
            go_wp2
            go_roundw
            case rel => exact ⟨k + 1, nx, by omega, rfl, by go_num, g6, hbz⟩
            case measure => simp [intOf]; omega
      · subst hke
        have hpl : p = l.length := by have := hp.out; rw [Ln.places_last] at this; injection this with this; exact this.symm
        subst hpl
        have hbw := Lib.hid (ext_trans hb1'.out hb)
        have hR1w := Lib.hid (hR1b.out.ext hb)
        clear hb
        obtain ⟨wq, rfl⟩ : ∃ wq : World, wq = wr := ⟨_, rfl⟩
        go_upto_block 6 with fail
        go_cut [12] (fun v wx => ∃ cl : List (List UInt8), cl.length ≤ 20 ∧ (∀ s ∈ cl, (∀ b ∈ s, Ln.isEnd b = false) ∧ s.length ≤ 4194304) ∧ wx.ownsRow wq.heap.size 9 1 v cl.length (scells cl) ∧ Below wq.heap.size wq wx)
        case first =>
          go_wp2_with fail
          go_loopw [12, 13] (fun v i wx => ∃ cl : List (List UInt8), cl.length ≤ l1.length ∧ cl.length ≤ 20 ∧ i = .int .i64 cl.length ∧ Hid (∀ s ∈ cl, (∀ b ∈ s, Ln.isEnd b = false) ∧ s.length ≤ 4194304) ∧ wx.ownsRow wq.heap.size 9 1 v cl.length (scells cl) ∧ Below wq.heap.size wq wx)
            (fun _ i _ => l1.length - (intOf i).toNat)
          case atStart => exact ⟨[], Nat.zero_le _, Nat.zero_le _, rfl, Lib.hid (by simp), World.ownsRow_nil _ _ _ _, Below.refl _ _⟩
          case round =>
            obtain ⟨cl, hk1, hk2, rfl, hcl, hown, hb⟩ := hrel
            have hz2 := hb.size
            by_cases hgo : cl.length < l1.length ∧ cl.length < 20
            · obtain ⟨hg1, hg2⟩ := hgo
              obtain ⟨b, o, rfl, hbb, hc⟩ := text_cell hR1w.out (by omega)
              have hx : wr.cell? ⟨b, o + cl.length, none⟩ = some (.string (bs l1[cl.length])) := (hb.cell hbb).trans (hc _ hg1)
              have hlen : l1[cl.length].length ≤ 1048576 := by
                have h1 := heft_mem (List.getElem_mem hg1)
                omega
              generalize l1[cl.length] = s at hx hlen
              clear hc
              obtain ⟨wi, rfl⟩ : ∃ wi : World, wi = wr := ⟨_, rfl⟩
              go_wp2_with fail
              go_loopw [14] (fun v wx => ∃ (acc : List UInt8) (pos : Nat), v = .string (bs acc) ∧ Hid (∀ b ∈ acc, Ln.isEnd b = false) ∧ acc.length ≤ 4 * pos ∧ pos ≤ s.length ∧ Hid (wx.heap[wi.heap.size]? = some (.stringIter (bs s) pos)) ∧ Below wi.heap.size wi wx)
                (fun _ wx => s.length - wx.iterPos wi.heap.size)
              case atStart => exact ⟨[], 0, rfl, Lib.hid (by simp), by simp, Nat.zero_le _, Lib.hid (World.iter_heap _ _ _), (Below.refl _ _).alloc (Nat.le_refl _) _⟩
              case round =>
                obtain ⟨acc, pos, rfl, hacc, hal, hps, hheap, hbi⟩ := hrel
                have hsz := bs_size s
                have hp1 : wr.iterPos wi.heap.size = pos := by unfold World.iterPos; rw [hheap.out]
                have hp1 := Lib.hid hp1
                by_cases hlt2 : pos < s.length
                · have hst := Ln.decode_step (bs s) pos (by omega)
                  have hnx := fun ty => run_next_any_at (P := Try.prog) wr wi.heap.size (bs s) pos ty hheap.out (by omega)
                  have hrl := decode_le (bs s) pos
                  obtain ⟨r, d, hd⟩ : ∃ r d, Utf8.decode (bs s) pos = (r, d) := ⟨_, _, rfl⟩
                  simp only [hd] at hnx hst hrl
                  have hh2 := Lib.hid (iterAt_heap wr wi.heap.size (bs s) pos (pos + d) hheap.out)
                  have hbi2 := below_iterAt hbi (Nat.le_refl wi.heap.size) (bs s) (pos + d)
                  have hp2 : (wr.iterAt wi.heap.size (bs s) (pos + d)).iterPos wi.heap.size = pos + d := by unfold World.iterPos; rw [hh2.out]
                  have hp2 := Lib.hid hp2
                  have hd1 : 1 ≤ d := hst.1
                  have hd2 : pos + d ≤ s.length := by have := hst.2; omega
                  clear hd hst hbi hsz
                  have hways : (((r : Int) != 10) = false) ∨ (((r : Int) != 10) = true ∧ ((r : Int) != 13) = false) ∨ (((r : Int) != 10) = true ∧ ((r : Int) != 13) = true) := by
                    cases ((r : Int) != 10) <;> cases ((r : Int) != 13) <;> simp
                  rcases hways with h1 | ⟨h1, h2⟩ | ⟨h1, h2⟩
                  · go_wp2
                    exact ⟨⟨acc, pos + d, rfl, hacc, by omega, hd2, hh2, hbi2⟩, by rw [hp1.out, hp2.out]; omega⟩
                  · go_wp2
                    exact ⟨⟨acc, pos + d, rfl, hacc, by omega, hd2, hh2, hbi2⟩, by rw [hp1.out, hp2.out]; omega⟩
                  · obtain ⟨en, henc, hec, hel⟩ := Ln.enc_clean (r : Int) (by simpa using h1) (by simpa using h2)
                    have hadd : ∀ u : World, (Op.stringOp .add (bs acc) (bs en)).run Try.prog u = .ok (.string (bs (acc ++ en))) u := fun u => by
                      rw [run_string_add_sum u _ _ (by rw [bs_size, bs_size]; omega), bs_append]
                    have hacc2 := Lib.hid (show ∀ b ∈ acc ++ en, Ln.isEnd b = false from by
                      intro b hb'; rcases List.mem_append.1 hb' with hb' | hb'
                      · exact hacc.out b hb'
                      · exact hec b hb')
                    clear hec
                    go_wp2
                    exact ⟨⟨acc ++ en, pos + d, rfl, hacc2, by simp; omega, hd2, hh2, hbi2⟩, by rw [hp1.out, hp2.out]; omega⟩
                · have hnx := fun ty => run_next_end_at (P := Try.prog) wr wi.heap.size (bs s) pos ty hheap.out (by omega)
                  have hown1 := own_below hown hbi
                  have hzi := hbi.size
                  have hcl2 := Lib.hid (show ∀ s ∈ cl ++ [acc], (∀ b ∈ s, Ln.isEnd b = false) ∧ s.length ≤ 4194304 from by
                    intro t ht; rcases List.mem_append.1 ht with ht | ht
                    · exact hcl.out t ht
                    · simp only [List.mem_singleton] at ht; subst ht; exact ⟨hacc.out, by omega⟩)
                  have hbz := hb.trans (hbi.mono hz2)
                  clear hown hb hbi hsz
                  go_wp2_with (at_builtin; refine wpList_app_new rfl (.tmp 124) (.tmp 126) rfl textEI rfl hown1 rfl rfl rfl (by simp; rfl) (by omega) (by omega) (by omega) ?_; intro v2 w2 hown2 hg2 hb2)
                  have hbz2 := hbz.trans hb2
                  clear hbz hb2 hg2 hown1
                  go_roundw
                  case rel => exact ⟨cl ++ [acc], by simp; omega, by simp; omega, by simp, hcl2, by simpa [scells] using hown2, hbz2⟩
                  case measure => simp [intOf]; omega
            · have hstop : l1.length ≤ cl.length ∨ cl.length < l1.length ∧ 20 ≤ cl.length := by omega
              clear hgo
              rcases hstop with hst | ⟨hst, hst2⟩
              all_goals
                go_wp2_with fail
                go_meet
                case rel => exact ⟨cl, hk2, hcl.out, hown, hb⟩
        case rest =>
          obtain ⟨cl, hcl1, hcl2, hown, hb⟩ := hcut
          obtain ⟨Ac, cc, rfl, hcc⟩ := own_shape hown
          have hRc := Lib.hid (Row.own hown)
          have hcl := Lib.hid (fun s hs => (hcl2 s hs).1)
          have hsum := Ln.sum_le cl 4194304 (fun s hs => (hcl2 s hs).2)
          have hj1 : (Ln.join cl [10]).length ≤ 1000000000000 := by rw [Ln.join_len]; simp; omega
          have hj2 : (Ln.join cl [13, 10]).length ≤ 1000000000000 := by rw [Ln.join_len]; simp; omega
          have hbh2 := Lib.hid (ext_trans hbw.out hb)
          clear hcl2 hown hb hsum
          go_wp2_with fail
          refine (join_any cl [10] _ cc _ hRc.out (by omega) hj1).mono ?_
          rintro e w3 ⟨v3, rfl, ho3, hb3⟩
          have hb3' := Lib.hid (ext_trans hbh2.out hb3)
          have hRc3 := Lib.hid (hRc.out.ext hb3)
          obtain ⟨A3, c3, rfl, hc3⟩ := own_shape ho3
          have hJ3 := Lib.hid (Row.own ho3)
          clear ho3 hb3
          go_wp2_with fail
          refine (texts_any (Ln.join cl [10]) _ c3 _ hJ3.out hc3 hj1).mono ?_
          rintro e w4 ⟨v4, rfl, ho4, hb4⟩
          rw [show Ln.texts (Ln.join cl [10]) 0 = cl from Ln.tx_join_ten cl hcl.out] at ho4
          have hb4' := Lib.hid (ext_trans hb3'.out hb4)
          have hRc4 := Lib.hid (hRc3.out.ext hb4)
          obtain ⟨A4, c4, rfl, hc4⟩ := own_shape ho4
          have hT4 := Lib.hid (Row.own ho4)
          clear ho4 hb4
          go_wp2_with fail
          refine (sames_eq cl _ _ _ _ _ hT4.out hRc4.out (by omega)).mono ?_
          rintro e w5 ⟨rfl, hb5⟩
          have hb5' := Lib.hid (ext_trans hb4'.out hb5)
          have hRc5 := Lib.hid (hRc4.out.ext hb5)
          clear hb5
          go_wp2_with fail
          refine (join_any cl [13, 10] _ cc _ hRc5.out (by omega) hj2).mono ?_
          rintro e w6 ⟨v6, rfl, ho6, hb6⟩
          have hb6' := Lib.hid (ext_trans hb5'.out hb6)
          have hRc6 := Lib.hid (hRc5.out.ext hb6)
          obtain ⟨A6, c6, rfl, hc6⟩ := own_shape ho6
          have hJ6 := Lib.hid (Row.own ho6)
          clear ho6 hb6
          go_wp2_with fail
          refine (texts_any (Ln.join cl [13, 10]) _ c6 _ hJ6.out hc6 hj2).mono ?_
          rintro e w7 ⟨v7, rfl, ho7, hb7⟩
          rw [show Ln.texts (Ln.join cl [13, 10]) 0 = cl from Ln.tx_join_two cl hcl.out] at ho7
          have hb7' := Lib.hid (ext_trans hb6'.out hb7)
          have hRc7 := Lib.hid (hRc6.out.ext hb7)
          obtain ⟨A7, c7, rfl, hc7⟩ := own_shape ho7
          have hT7 := Lib.hid (Row.own ho7)
          clear ho7 hb7
          go_wp2_with fail
          refine (sames_eq cl _ _ _ _ _ hT7.out hRc7.out (by omega)).mono ?_
          rintro e w8 ⟨rfl, hb8⟩
          have hb8' := Lib.hid (ext_trans hb7'.out hb8)
          clear hb8
          go_wp2_with fail
          refine (known_any _).mono ?_
          rintro e w9 ⟨rfl, hb9⟩
          go_wp2
          go_returns
          exact ⟨rfl, ext_trans hb8'.out hb9⟩
end Go.Proofs.Ytbddmnhmfmkbhaa
