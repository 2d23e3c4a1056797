/- LineEnds: lines are as many as ends, and one more if something is behind the last one; whichever end it is. -/
import Derived.Test.YtbddmnhmfmkbhaaKnown
import Derived.Test.YtbddmnhmfmkbhaaLnText
import Derived.Test.YtbddmnhmfmkbhaaTwo
namespace Go.Proofs.Ytbddmnhmfmkbhaa
open Go.RowKit

theorem u8_bits3 (b : UInt8) : (bits .and .u8 (b.toNat : Int) 3 == 0) = true ∨ (bits .and .u8 (b.toNat : Int) 3 == 0) = false := by
  cases (bits .and .u8 (b.toNat : Int) 3 == 0) <;> simp

theorem tx_lines (l : List UInt8) : (Ln.lines l 0).length = (Ln.tx l).length := by simp [Ln.tx, Ln.texts]

set_option maxRecDepth 100000 in
set_option maxHeartbeats 2000000 in
theorem ends_any (l0 : List UInt8) (A0 : Option Addr) (c0 : Nat) (w : World) (h0 : Row w w.heap.size 1 A0 l0.length (bcells l0)) (_hc0 : l0.length ≤ c0) (hm0 : c0 ≤ maxLen) :
    Calls Try.prog 6 #[.slice A0 l0.length c0] w fun e w' => e = .returned (.bool true) ∧ Below w.heap.size w w' := by
  have hR0 := Lib.hid h0
  have hmx : l0.length ≤ 9223372036854775807 := by unfold maxLen at hm0; omega
  clear h0 hm0
  go_enter Try.func6, Try.ntmps6
  go_wp2_with fail
  go_loopw [3, 4, 5, 6] (fun va vb n i wr => ∃ (cs : List Bool), cs.length ≤ l0.length ∧ cs.length ≤ 60 ∧ n = .int .i64 (Ln.ends cs) ∧ i = .int .i64 cs.length ∧
      wr.ownsRow w.heap.size 5 1 va (Ln.one cs).length (bcells (Ln.one cs)) ∧ wr.ownsRow w.heap.size 5 1 vb (Ln.two cs).length (bcells (Ln.two cs)) ∧ Apart va vb ∧ Below w.heap.size w wr)
    (fun _ _ _ i _ => l0.length - (intOf i).toNat)
  case atStart => exact ⟨[], Nat.zero_le _, Nat.zero_le _, rfl, rfl, World.ownsRow_nil _ _ _ _, World.ownsRow_nil _ _ _ _, Apart.nil _, Below.refl _ _⟩
  case round =>
    obtain ⟨cs, hk1, hk2, rfl, rfl, hoa, hob, hap, hb⟩ := hrel
    have hz := hb.size
    have q1 := Ln.one_len cs
    have q2 := Ln.two_len cs
    have q3 := Ln.ends_le cs
    by_cases hgo : cs.length < l0.length ∧ cs.length < 60
    · obtain ⟨hg1, hg2⟩ := hgo
      obtain ⟨b, o, rfl, hbb, hc⟩ := byte_cell hR0.out (by omega)
      have hx : wr.cell? ⟨b, o + cs.length, none⟩ = some (.int .u8 (l0[cs.length].toNat : Int)) := (hb.cell hbb).trans (hc _ hg1)
      have r1 := Lib.hid (Ln.one_snoc cs)
      have r2 := Lib.hid (Ln.two_snoc cs)
      have r3 := Lib.hid (Ln.ends_snoc cs)
      have q1h := Lib.hid q1
      have q2b : (Ln.one cs).length ≤ 60 := by omega
      clear hc q1
      rcases u8_bits3 l0[cs.length] with ht | ht
      · go_wp2_with (first | (at_builtin; refine wpList_app_two rfl (.tmp 24) (.tmp 25) rfl byteEI rfl hoa rfl rfl rfl (by simp; rfl) (by omega) (by omega) hz ?_; intro v2 w2 ho2 hg2 hb2 hat2; have hob2 := own_apart hob hg2.out hap; have hap2 := (hap.step hob hat2.out (Nat.le_refl _)).symm; have hz2 := Nat.le_trans hz hb2.size) | (at_builtin; refine wpList_app_two rfl (.tmp 27) (.tmp 28) rfl byteEI rfl hob2 rfl rfl rfl (by simp; exact ⟨rfl, rfl⟩) (by omega) (by omega) hz2 ?_; intro v3 w3 ho3 hg3 hb3 hat3; have hoa3 := own_apart ho2 hg3.out hap2; have hap3 := (hap2.step ho2 hat3.out (Nat.le_refl _)).symm))
        have hbz := (hb.trans hb2).trans hb3
        clear hb hb2 hb3 hoa hob ho2 hob2 hap hap2 hat2 hat3 hg2 hg3
        go_roundw
        case rel => exact ⟨cs ++ [true], by simp; omega, by simp; omega, by rw [r3.out]; go_num, by simp, by rw [r1.out]; simpa [bcells, bv] using hoa3, by rw [r2.out]; simpa [bcells, bv] using ho3, hap3, hbz⟩
        case measure => simp [intOf]; omega
      · go_wp2_with (first | (at_builtin; refine wpList_app_two rfl (.tmp 32) (.tmp 33) rfl byteEI rfl hoa rfl rfl rfl (by simp; rfl) (by omega) (by omega) hz ?_; intro v2 w2 ho2 hg2 hb2 hat2; have hob2 := own_apart hob hg2.out hap; have hap2 := (hap.step hob hat2.out (Nat.le_refl _)).symm; have hz2 := Nat.le_trans hz hb2.size) | (at_builtin; refine wpList_app_two rfl (.tmp 35) (.tmp 36) rfl byteEI rfl hob2 rfl rfl rfl (by simp; rfl) (by omega) (by omega) hz2 ?_; intro v3 w3 ho3 hg3 hb3 hat3; have hoa3 := own_apart ho2 hg3.out hap2; have hap3 := (hap2.step ho2 hat3.out (Nat.le_refl _)).symm))
        have hbz := (hb.trans hb2).trans hb3
        clear hb hb2 hb3 hoa hob ho2 hob2 hap hap2 hat2 hat3 hg2 hg3
        go_roundw
        case rel => exact ⟨cs ++ [false], by simp; omega, by simp; omega, by rw [r3.out]; simp, by simp, by rw [r1.out]; simpa [bcells, bv] using hoa3, by rw [r2.out]; simpa [bcells, bv] using ho3, hap3, hbz⟩
        case measure => simp [intOf]; omega
    · obtain ⟨Aa, ca, rfl, hca⟩ := own_shape hoa
      obtain ⟨Ab, cb, rfl, hcb⟩ := own_shape hob
      have hRa := Lib.hid (Row.own hoa)
      have hRb := Lib.hid (Row.own hob)
      clear hoa hob hap
      have hlen := Lib.hid (show (Ln.lines (Ln.one cs) 0).length = Ln.ends cs + Ln.more (Ln.one cs) from by
        rw [tx_lines]; have := Ln.len_one cs [] (by simp); simpa using this)
      have htx := Lib.hid (show Ln.texts (Ln.two cs) 0 = Ln.texts (Ln.one cs) 0 from by
        have := Ln.tx_one_two cs [] (by simp); simp only [List.nil_append] at this; exact this.symm)
      have hll := Ln.texts_len (Ln.one cs) 0
      have hways : (Ln.one cs = [] ∧ Hid (Ln.more (Ln.one cs) = 0)) ∨ ∃ x : UInt8, 0 < (Ln.one cs).length ∧ (wr.cell? = wr.cell? → ∃ b o, Aa = some ⟨b, o, none⟩ ∧ wr.cell? ⟨b, o + ((Ln.one cs).length - 1), none⟩ = some (.int .u8 (x.toNat : Int))) ∧
          ((((x.toNat : Int) != (10 : Int)) = false ∧ Hid (Ln.more (Ln.one cs) = 0)) ∨ (((x.toNat : Int) != (10 : Int)) = true ∧ Hid (Ln.more (Ln.one cs) = 1))) := by
        rcases Nat.eq_zero_or_pos (Ln.one cs).length with h0 | h0
        · have : Ln.one cs = [] := List.eq_nil_of_length_eq_zero h0
          exact .inl ⟨this, Lib.hid (by rw [this]; rfl)⟩
        · right
          have hl : (Ln.one cs).getLast? = some ((Ln.one cs)[(Ln.one cs).length - 1]) := by rw [List.getLast?_eq_getElem?, List.getElem?_eq_getElem]
          refine ⟨(Ln.one cs)[(Ln.one cs).length - 1], h0, fun _ => ?_, ?_⟩
          · obtain ⟨b, o, e, _, hc⟩ := byte_cell hRa.out h0
            exact ⟨b, o, e, hc _ (by omega)⟩
          · by_cases hx : (Ln.one cs)[(Ln.one cs).length - 1] = 10
            · left; exact ⟨by rw [hx]; rfl, Lib.hid (by unfold Ln.more; rw [hl, hx]; simp)⟩
            · right; refine ⟨by have := byte_ne (n := 10) (by omega) hx; simpa using this, Lib.hid ?_⟩
              unfold Ln.more; rw [hl, if_neg]; simp [hx]
      have hstop : l0.length ≤ cs.length ∨ cs.length < l0.length ∧ 60 ≤ cs.length := by omega
      have hq : (Ln.one cs).length ≤ 60 := by omega
      have hq2 : (Ln.two cs).length ≤ 120 := by omega
      clear hgo hR0 q1 q2
      have hsp := split_any (Ln.one cs) Aa ca wr hRa.out (by omega)
      have hsph := Lib.hid hsp
      clear hsp
      rcases hways with ⟨h0, hm⟩ | ⟨x, h0, hc, hm⟩
      · have h00 : ¬ (0 : Int) < ((Ln.one cs).length : Int) := by rw [h0]; simp
        clear h0
        rw [hm.out] at hlen
        rcases hstop with hst | ⟨hst, hst2⟩
        all_goals
          go_wp2_with fail
          refine hsph.out.mono ?_
          rintro e w1 ⟨v1, rfl, ho1, hb1⟩
          rw [hlen.out] at ho1
          obtain ⟨A1, c1, rfl, hc1⟩ := own_shape ho1
          have hb1' := Lib.hid hb1
          clear ho1 hb1 hlen
          go_wp2_with fail
          refine (texts_any (Ln.one cs) _ ca _ (hRa.out.ext hb1'.out) hca (by omega)).mono ?_
          rintro e w2 ⟨v2, rfl, ho2, hb2⟩
          have hb2' := Lib.hid (ext_trans hb1'.out hb2)
          obtain ⟨A2, c2, rfl, hc2⟩ := own_shape ho2
          have hT2 := Lib.hid (Row.own ho2)
          clear ho2 hb2
          go_wp2_with fail
          refine (texts_any (Ln.two cs) _ cb _ (hRb.out.ext hb2'.out) hcb (by omega)).mono ?_
          rintro e w3 ⟨v3, rfl, ho3, hb3⟩
          rw [htx.out] at ho3
          have hb3' := Lib.hid (ext_trans hb2'.out hb3)
          have hT2' := Lib.hid (hT2.out.ext hb3)
          obtain ⟨A3, c3, rfl, hc3⟩ := own_shape ho3
          have hT3 := Lib.hid (Row.own ho3)
          clear ho3 hb3
          go_wp2_with fail
          refine (sames_eq (Ln.texts (Ln.one cs) 0) _ _ _ _ _ hT2'.out hT3.out (by omega)).mono ?_
          rintro e w4 ⟨rfl, hb4⟩
          have hb4' := Lib.hid (ext_trans hb3'.out hb4)
          clear hb4
          rcases Nat.eq_zero_or_pos (Ln.ends cs) with hn0 | hn0
          · have hn : ((Ln.ends cs : Int) == 0) = true := by simp [hn0]
            clear hn0
            go_wp2_with fail
            refine (known_any _).mono ?_
            rintro e w6 ⟨rfl, hb6⟩
            go_wp2
            go_returns
            exact ⟨rfl, ext_trans hb (ext_trans hb4'.out hb6)⟩
          · have hn : ((Ln.ends cs : Int) == 0) = false := by simp; omega
            have hmd := Lib.hid (show mid (Ln.two cs) (Ln.eol (Ln.two cs) 0) (Ln.nxt (Ln.two cs) 0) = [13, 10] from by
              obtain ⟨s, r, h1, h2⟩ := Ln.two_first cs hn0
              rw [h2]; exact Ln.last_two h1)
            clear hn0
            go_wp2_with fail
            refine (last_any (Ln.two cs) _ cb _ (hRb.out.ext hb4'.out) hcb (by omega)).mono ?_
            rintro e w5 ⟨rfl, hb5⟩
            rw [hmd.out, show bs [13, 10] = ⟨#[13, 10]⟩ from rfl]
            go_wp2_with fail
            refine (known_any _).mono ?_
            rintro e w6 ⟨rfl, hb6⟩
            go_wp2
            go_returns
            exact ⟨rfl, ext_trans hb (ext_trans hb4'.out (ext_trans hb5 hb6))⟩
      · obtain ⟨b, o, rfl, hc⟩ := hc rfl
        rcases hstop with hst | ⟨hst, hst2⟩
        all_goals
          rcases hm with ⟨ht, hm⟩ | ⟨ht, hm⟩
        all_goals
          rw [hm.out] at hlen
          go_wp2_with fail
          refine hsph.out.mono ?_
          rintro e w1 ⟨v1, rfl, ho1, hb1⟩
          rw [hlen.out] at ho1
          obtain ⟨A1, c1, rfl, hc1⟩ := own_shape ho1
          have hb1' := Lib.hid hb1
          clear ho1 hb1 hlen
          go_wp2_with fail
          refine (texts_any (Ln.one cs) _ ca _ (hRa.out.ext hb1'.out) hca (by omega)).mono ?_
          rintro e w2 ⟨v2, rfl, ho2, hb2⟩
          have hb2' := Lib.hid (ext_trans hb1'.out hb2)
          obtain ⟨A2, c2, rfl, hc2⟩ := own_shape ho2
          have hT2 := Lib.hid (Row.own ho2)
          clear ho2 hb2
          go_wp2_with fail
          refine (texts_any (Ln.two cs) _ cb _ (hRb.out.ext hb2'.out) hcb (by omega)).mono ?_
          rintro e w3 ⟨v3, rfl, ho3, hb3⟩
          rw [htx.out] at ho3
          have hb3' := Lib.hid (ext_trans hb2'.out hb3)
          have hT2' := Lib.hid (hT2.out.ext hb3)
          obtain ⟨A3, c3, rfl, hc3⟩ := own_shape ho3
          have hT3 := Lib.hid (Row.own ho3)
          clear ho3 hb3
          go_wp2_with fail
          refine (sames_eq (Ln.texts (Ln.one cs) 0) _ _ _ _ _ hT2'.out hT3.out (by omega)).mono ?_
          rintro e w4 ⟨rfl, hb4⟩
          have hb4' := Lib.hid (ext_trans hb3'.out hb4)
          clear hb4
          rcases Nat.eq_zero_or_pos (Ln.ends cs) with hn0 | hn0
          · have hn : ((Ln.ends cs : Int) == 0) = true := by simp [hn0]
            clear hn0
            go_wp2_with fail
            refine (known_any _).mono ?_
            rintro e w6 ⟨rfl, hb6⟩
            go_wp2
            go_returns
            exact ⟨rfl, ext_trans hb (ext_trans hb4'.out hb6)⟩
          · have hn : ((Ln.ends cs : Int) == 0) = false := by simp; omega
            have hmd := Lib.hid (show mid (Ln.two cs) (Ln.eol (Ln.two cs) 0) (Ln.nxt (Ln.two cs) 0) = [13, 10] from by
              obtain ⟨s, r, h1, h2⟩ := Ln.two_first cs hn0
              rw [h2]; exact Ln.last_two h1)
            clear hn0
            go_wp2_with fail
            refine (last_any (Ln.two cs) _ cb _ (hRb.out.ext hb4'.out) hcb (by omega)).mono ?_
            rintro e w5 ⟨rfl, hb5⟩
            rw [hmd.out, show bs [13, 10] = ⟨#[13, 10]⟩ from rfl]
            go_wp2_with fail
            refine (known_any _).mono ?_
            rintro e w6 ⟨rfl, hb6⟩
            go_wp2
            go_returns
            exact ⟨rfl, ext_trans hb (ext_trans hb4'.out (ext_trans hb5 hb6))⟩
end Go.Proofs.Ytbddmnhmfmkbhaa
