/- Contracts of the document's own answers on lines: Split, Texts, End, Join. -/
import Derived.Test.YtmbcddehacfpgaaGreatDoorMt06
namespace Go.Proofs.YtmbcddehacfpgaaGreatDoor
open Go.RowKit

theorem rlineEI : EI Tryz.prog 77 98 3 24 := EI.mk' (z := .agg #[.int .i64 0, .int .i64 0, .int .i64 0]) Tryz.underlying77 (by kernel_rfl) rfl (by omega)

theorem end_kinds {x : UInt8} (h : Ln.isEnd x = true) : x = 10 ∨ x = 13 := by simpa [Ln.isEnd] using h
theorem nxt_of {l : List UInt8} {k i : Nat} (h : Ln.eol l k = i) : Ln.nxt l k = i + Ln.endLen (l.drop i) := by unfold Ln.nxt; rw [h]

set_option maxHeartbeats 1000000 in
theorem rsplit_any (l : List UInt8) (A : Option Addr) (c : Nat) (w : World) (h : Row w w.heap.size 1 A l.length (bcells l)) (hl : l.length ≤ 1000000000000) :
    Calls Tryz.prog 30 #[.slice A l.length c] w fun e w' =>
      ∃ v, e = .returned v ∧ w'.ownsRow w.heap.size 98 3 v (Ln.lines l 0).length (lcells (Ln.lines l 0)) ∧ Below w.heap.size w w' := by
  have hR := Lib.hid h
  clear h
  go_enter Tryz.func30, Tryz.ntmps30
  go_wp2_with fail
  go_loopw [3, 4, 5] (fun v s i wr => ∃ (k j : Nat) (d : List (Nat × Nat × Nat)), k ≤ j ∧ j ≤ l.length ∧ s = .int .i64 k ∧ i = .int .i64 j ∧ Hid (Ln.eol l j = Ln.eol l k) ∧ Hid (d ++ Ln.lines l k = Ln.lines l 0) ∧ d.length ≤ k ∧
      wr.ownsRow w.heap.size 98 3 v d.length (lcells d) ∧ Below w.heap.size w wr)
    (fun _ _ i _ => l.length - (intOf i).toNat)
  case atStart => exact ⟨0, 0, [], Nat.le_refl _, Nat.zero_le _, rfl, rfl, Lib.hid rfl, Lib.hid rfl, Nat.zero_le _, World.ownsRow_nil _ _ _ _, Below.refl _ _⟩
  case round =>
    obtain ⟨k, j, d, hkj, hj, rfl, rfl, hej, hd, hdl, hown, hb⟩ := hrel
    have hz := hb.size
    rcases Nat.lt_or_eq_of_le hj with hlt | rfl
    · obtain ⟨b, o, rfl, hbb, hc⟩ := byte_cell hR.out (by omega)
      have h0 : wr.cell? ⟨b, o + j, none⟩ = some (.int .u8 (l[j].toNat : Int)) := (hb.cell hbb).trans (hc j hlt)
      by_cases hEnd : Ln.isEnd l[j] = true
      · have hje : Ln.eol l k = j := by rw [← hej.out]; exact Ln.eol_end hlt hEnd
        have hways : ∃ m, Hid (Ln.nxt l k = j + m) ∧ j + m ≤ l.length ∧ 
            ((m = 1 ∧ ((l[j].toNat : Int) != (10 : Int)) = false ∧ ((l[j].toNat : Int) == (13 : Int)) = false) ∨
             (m = 1 ∧ ((l[j].toNat : Int) != (10 : Int)) = true ∧ ((l[j].toNat : Int) != (13 : Int)) = false ∧ ((l[j].toNat : Int) == (13 : Int)) = true ∧ l.length ≤ j + 1) ∨
             (m = 1 ∧ ((l[j].toNat : Int) != (10 : Int)) = true ∧ ((l[j].toNat : Int) != (13 : Int)) = false ∧ ((l[j].toNat : Int) == (13 : Int)) = true ∧ ∃ x : UInt8, j + 1 < l.length ∧ wr.cell? ⟨b, o + (j + 1), none⟩ = some (.int .u8 (x.toNat : Int)) ∧ ((x.toNat : Int) == (10 : Int)) = false) ∨
             (m = 2 ∧ ((l[j].toNat : Int) != (10 : Int)) = true ∧ ((l[j].toNat : Int) != (13 : Int)) = false ∧ ((l[j].toNat : Int) == (13 : Int)) = true ∧ ∃ x : UInt8, j + 1 < l.length ∧ wr.cell? ⟨b, o + (j + 1), none⟩ = some (.int .u8 (x.toNat : Int)) ∧ ((x.toNat : Int) == (10 : Int)) = true)) := by
          refine ⟨Ln.endLen (l.drop j), nxt_of hje, ?_, ?_⟩
          · have := Ln.endLen_le (l.drop j); rw [List.length_drop] at this; omega
          · rw [drop_at hlt]
            rcases end_kinds hEnd with h10 | h13
            · left; rw [h10]; exact ⟨rfl, rfl, rfl⟩
            · right
              rw [h13]
              by_cases h1 : j + 1 < l.length
              · right
                rw [drop_at h1]
                by_cases h2 : l[j + 1] = 10
                · right; rw [h2]; exact ⟨rfl, rfl, rfl, rfl, l[j + 1], h1, (hb.cell hbb).trans (hc _ h1), ln_byte_eq (n := 10) (by omega) h2⟩
                · left; rw [Ln.endLen_cr _ h2]; exact ⟨rfl, rfl, rfl, rfl, l[j + 1], h1, (hb.cell hbb).trans (hc _ h1), ln_byte_ne (n := 10) (by omega) h2⟩
              · left; rw [List.drop_of_length_le (by omega)]; exact ⟨rfl, rfl, rfl, rfl, by omega⟩
        have hn1 := Ln.lt_nxt (l := l) (k := k) (by omega)
        obtain ⟨m, hm, hml, hways⟩ := hways
        have hd2 := Lib.hid (show (d ++ [(k, j, j + m)]) ++ Ln.lines l (j + m) = Ln.lines l 0 from by rw [← hd.out, Ln.lines_step (l := l) (k := k) (by omega), hje, hm.out]; simp)
        clear hje hc hEnd hd hej hn1
        rcases hways with ⟨rfl, h1, h2⟩ | ⟨rfl, h1, h2, h3, h4⟩ | ⟨rfl, h1, h2, h3, x, h4, h5, h6⟩ | ⟨rfl, h1, h2, h3, x, h4, h5, h6⟩
        all_goals
          go_wp2_with (at_builtin; refine wpList_app_new rfl (.tmp 47) (.tmp 52) rfl rlineEI rfl hown rfl rfl rfl (by simp; exact ⟨rfl, rfl, rfl⟩) (by omega) (by omega) hz ?_; intro v2 w2 hown2 hg2 hb2)
          have hbz := hb.trans hb2
          clear hb hb2 hg2 hown hR
          go_roundw
          case rel => exact ⟨_, _, _, Nat.le_refl _, hml, by go_num, by go_num, Lib.hid rfl, hd2, by simp; omega, by first | (simpa [lcells] using hown2; done) | (rw [show ((j : Int) + 1 + 1) = (j : Int) + 2 from by omega] at hown2; simpa [lcells] using hown2), hbz⟩
          case measure => simp [intOf]; omega
      · have hje := Lib.hid (show Ln.eol l (j + 1) = Ln.eol l k from by rw [← hej.out]; exact Ln.eol_step hlt (by simpa using hEnd))
        obtain ⟨h10, h13⟩ := noend_tests hEnd
        clear hc hEnd
        go_wp2
        go_roundw
        case rel => exact ⟨k, j + 1, d, by omega, by omega, rfl, by go_num, hje, hd, hdl, hown, hb⟩
        case measure => simp [intOf]; omega
    · by_cases hkl : k < l.length
      · have hfin : d ++ [(k, l.length, l.length)] = Ln.lines l 0 := by
          have he : Ln.eol l k = l.length := by rw [← hej.out]; exact Ln.eol_at l
          have hn : Ln.nxt l k = l.length := by rw [nxt_of he]; simp [Ln.endLen]
          rw [← hd.out, Ln.lines_step hkl, he, hn, Ln.lines_end (by omega)]
        have hfin := Lib.hid hfin
        go_wp2_with (at_builtin; refine wpList_app_new rfl (.tmp 61) (.tmp 68) rfl rlineEI rfl hown rfl rfl rfl (by simp; exact ⟨rfl, rfl⟩) (by omega) (by omega) hz ?_; intro v2 w2 hown2 hg2 hb2)
        go_returns
        rw [← hfin.out]
        exact ⟨_, rfl, by simpa [lcells] using hown2, hb.trans hb2⟩
      · have hfin : d = Ln.lines l 0 := by rw [← hd.out, Ln.lines_end hkl]; simp
        subst hfin
        go_wp2
        go_returns
        exact ⟨_, rfl, hown, hb⟩

theorem sizeRL (w : World) : (sizeOf (Tryz.prog.elem 77)).run Tryz.prog w = .ok 3 w := by kernel_rfl

/-- the cells of a row of lines -/
theorem line_cell {ls : List (Nat × Nat × Nat)} {w : World} {B : Nat} {A : Option Addr} (h : Row w B 3 A ls.length (lcells ls)) (hn : 0 < ls.length) :
    ∃ b o, A = some ⟨b, o, none⟩ ∧ b < B ∧ ∀ k, (hk : k < ls.length) → w.cell? ⟨b, o + k * 3, none⟩ = some (.int .i64 (ls[k].1 : Nat)) ∧ w.cell? ⟨b, o + k * 3 + 1, none⟩ = some (.int .i64 (ls[k].2.1 : Nat)) ∧ w.cell? ⟨b, o + k * 3 + 2, none⟩ = some (.int .i64 (ls[k].2.2 : Nat)) := by
  obtain ⟨b, o, e, hb, hc⟩ := h.2 hn
  have key : ∀ (ls : List (Nat × Nat × Nat)) (k : Nat), (hk : k < ls.length) → (lcells ls)[k * 3]? = some (.int .i64 (ls[k].1 : Nat)) ∧ (lcells ls)[k * 3 + 1]? = some (.int .i64 (ls[k].2.1 : Nat)) ∧ (lcells ls)[k * 3 + 2]? = some (.int .i64 (ls[k].2.2 : Nat)) := by
    intro ls
    induction ls with
    | nil => intro k hk; simp at hk
    | cons x r ih =>
      intro k hk
      match k, hk with
      | 0, _ => simp [lcells]
      | k + 1, hk =>
        have := ih k (by simpa using hk)
        have e : lcells (x :: r) = [.int .i64 x.1, .int .i64 x.2.1, .int .i64 x.2.2] ++ lcells r := rfl
        rw [e, Nat.add_mul]
        simpa [List.getElem?_append, Nat.add_assoc] using this
  refine ⟨b, o, e, hb, fun k hk => ?_⟩
  obtain ⟨h1, h2, h3⟩ := key ls k hk
  exact ⟨hc _ _ h1, hc _ _ h2, hc _ _ h3⟩

set_option maxHeartbeats 1000000 in
theorem rtexts_any (l : List UInt8) (A : Option Addr) (c : Nat) (w : World) (h : Row w w.heap.size 1 A l.length (bcells l)) (hlc : l.length ≤ c) (hl : l.length ≤ 1000000000000) :
    Calls Tryz.prog 27 #[.slice A l.length c] w fun e w' =>
      ∃ v, e = .returned v ∧ w'.ownsRow w.heap.size 9 1 v (Ln.texts l 0).length (scells (Ln.texts l 0)) ∧ Below w.heap.size w w' := by
  have hR := Lib.hid h
  clear h
  have hll := Ln.lines_len l 0
  go_enter Tryz.func27, Tryz.ntmps27
  go_wp2_with fail
  refine (rsplit_any l _ c _ hR.out hl).mono ?_
  rintro e w1 ⟨v1, rfl, ho1, hb1⟩
  obtain ⟨A1, c1, rfl, hc1⟩ := own_shape ho1
  have hL1 := Lib.hid (Row.own ho1)
  have hz1 := hb1.size
  clear ho1
  go_wp2_with fail
  go_loopw [3, 9] (fun v i wr => ∃ (k : Nat), k ≤ (Ln.lines l 0).length ∧ i = .int .i64 k ∧ wr.ownsRow w1.heap.size 9 1 v k (scells ((Ln.texts l 0).take k)) ∧ Below w1.heap.size w1 wr)
    (fun _ i _ => (Ln.lines l 0).length - (intOf i).toNat)
  case atStart => exact ⟨0, Nat.zero_le _, rfl, World.ownsRow_nil _ _ _ _, Below.refl _ _⟩
  case round =>
    obtain ⟨k, hk, rfl, hown, hb⟩ := hrel
    have hz := hb.size
    rcases Nat.lt_or_eq_of_le hk with hlt | hke
    · obtain ⟨b, o, rfl, hbb, hc⟩ := line_cell hL1.out (by omega)
      obtain ⟨lo, hi, nx, hx⟩ : ∃ lo hi nx, (Ln.lines l 0)[k] = (lo, hi, nx) := ⟨_, _, _, rfl⟩
      obtain ⟨hw1, hw2, hw3⟩ := Ln.lines_within l 0 _ (List.getElem_mem hlt)
      obtain ⟨q0, q1, q2⟩ := hc k hlt
      rw [hx] at q0 q1 q2 hw1 hw2 hw3
      have c0 : wr.cell? ⟨b, o + k * 3, none⟩ = some (.int .i64 (lo : Nat)) := (hb.cell hbb).trans q0
      have c1' : wr.cell? ⟨b, o + k * 3 + 1, none⟩ = some (.int .i64 (hi : Nat)) := (hb.cell hbb).trans q1
      have c2' : wr.cell? ⟨b, o + k * 3 + 2, none⟩ = some (.int .i64 (nx : Nat)) := (hb.cell hbb).trans q2
      have hlh : lo ≤ hi := hw1
      have hhl : hi ≤ l.length := Nat.le_trans hw2 hw3
      have hsl := run_cut underB 1 sizeU8 A l.length c _ _ hlh (Nat.le_trans hhl hlc)
      have hcv := run_text (c := c - lo) (((((hR.out.below hb1).more hb1.size).below hb).alloc hz (.cells #[.int .i64 lo, .int .i64 hi, .int .i64 nx] 98)).sub hlh hhl hlc) 23 5 9 Tryz.underlying23 Tryz.underlying5 Tryz.underlying9
      have htk := Lib.hid (show scells ((Ln.texts l 0).take (k + 1)) = scells ((Ln.texts l 0).take k) ++ [.string (bs (mid l lo hi))] from by
        have hk2 : k < (Ln.texts l 0).length := by simpa [Ln.texts] using hlt
        rw [List.take_succ_eq_append_getElem hk2]
        simp only [scells, List.map_append, List.map_cons, List.map_nil]
        simp only [Ln.texts, List.getElem_map, hx])
      clear hc q0 q1 q2 hx hw1
      go_wp2_with (at_builtin; refine wpList_app_new rfl (.tmp 13) (.tmp 21) rfl textEI rfl (hown.alloc _) rfl (by simp) rfl (by simp; rfl) (by omega) (by omega) (by simp; omega) ?_; intro v2 w2 hown2 hgr2 hb2)
      have hbz : Below w1.heap.size w1 w2 := (hb.alloc hz _).trans hb2
      clear hb hb2 hgr2 hown hcv hsl
      go_wp2
      go_roundw
      case rel => exact ⟨k + 1, by omega, by go_num, by rw [htk.out]; exact hown2, hbz⟩
      case measure => simp [intOf]; omega
    · have hk2 : (Ln.texts l 0).length = k := by simpa [Ln.texts] using hke.symm
      have hown3 : wr.ownsRow w.heap.size 9 1 u3 (Ln.texts l 0).length (scells (Ln.texts l 0)) := by
        have := own_base hown hz1
        rwa [← hk2, List.take_length] at this
      clear hk2
      subst hke
      go_wp2
      go_returns
      exact ⟨_, rfl, hown3, hb1.trans (hb.mono hz1)⟩

theorem strZ : (bs []) = ⟨#[]⟩ := rfl

end Go.Proofs.YtmbcddehacfpgaaGreatDoor
