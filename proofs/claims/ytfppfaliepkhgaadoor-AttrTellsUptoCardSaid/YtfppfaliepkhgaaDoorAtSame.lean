/- Law 5's 'same': package attr and the document's own answers say the same of a text. -/
import Derived.Test.YtfppfaliepkhgaaDoorAtReadP
import Derived.Test.YtfppfaliepkhgaaDoorAtRead
import Derived.BigQuiet
namespace Go.Proofs.YtfppfaliepkhgaaDoor
open Go.RowKit

attribute [local go_sem] canOp readsAs readUpon

theorem At.pair_alone {r : List UInt8} {a : Nat} (h : (At.pair r a).1.alone = true) : (At.pair r a).1.text = [] := by
  by_cases h0 : At.tw At.letter r = []
  · rw [At.pair_empty h0]
  · rcases hr : r.drop (At.tw At.letter r).length with _ | ⟨b, q⟩
    · rw [At.pair_end h0 hr]
    · cases hb : Cl.isGap b with
      | true => rw [At.pair_gap h0 hr hb]
      | false =>
        by_cases h61 : b = 61
        · subst h61
          by_cases hq : ∃ q', q = 34 :: q'
          · obtain ⟨q', rfl⟩ := hq
            cases hQ : At.qd q' with
            | none => rw [At.pair_open h0 hr hQ]
            | some x =>
              obtain ⟨t, n⟩ := x
              rw [At.pair_quote h0 hr hQ] at h; cases h
          · rw [At.pair_word h0 hr (fun x hx => hq ⟨x, hx⟩)] at h; cases h
        · rw [At.pair_bad h0 hr hb h61]
theorem At.prs_alone {l : List UInt8} : ∀ (f : Nat) (first : Bool) (lang : List UInt8) (out : List At.Pr) (i : Nat), (∀ p ∈ out, p.alone = true → p.text = []) → ∀ p ∈ (At.prs l f first lang out i).2.1, p.alone = true → p.text = [] := by
  intro f
  induction f with
  | zero => intro first lang out i _ p hp; cases hp
  | succ f ih =>
    intro first lang out i ho p hp
    rw [At.prs] at hp
    split at hp
    · exact ho p hp
    · split at hp
      · exact ih _ _ _ _ ho p hp
      · split at hp
        · cases hp
        · split at hp
          · cases hp
          · refine ih _ _ _ _ (fun x hx => ?_) p hp
            rcases List.mem_append.1 hx with hx | hx
            · exact ho x hx
            · simp at hx
              subst hx
              exact At.pair_alone
theorem attrv_form (o : Option At.Attr) : ∃ (a : At.Attr) (ok : Bool), attrv o = .tuple #[.agg (acells a), .bool ok] := by
  cases o with
  | none => exact ⟨_, _, rfl⟩
  | some a => exact ⟨a, _, rfl⟩

set_option maxHeartbeats 8000000 in
set_option maxRecDepth 100000 in
theorem same_any (l : List UInt8) (w : World) (hl : l.length ≤ 1000000000) (hT : Tabs w) :
    Calls Tryd.prog 7 #[.string (bs l)] w fun e w' => e = .returned (.bool true) ∧ Below w.heap.size w w' := by
  have hsz2 := tabs_size hT
  have hp1 := fun w h => pread_any l w hl h
  have hr1 := fun w => read_any l w hl
  have hp2 := fun w h => pname_any l w hl h
  have hr2 := fun w => name_any l w hl
  have hp3 := fun w => ppairs_any l w hl
  have hr3 := fun w => pairs_any l w hl
  have htx : ∀ p ∈ (At.pairs l).2.1, p.text.length ≤ l.length := At.prs_text _ _ _ _ _ (fun p hp => by cases hp)
  have hal : ∀ p ∈ (At.pairs l).2.1, p.alone = true → p.text = [] := At.prs_alone _ _ _ _ _ (fun p hp => by cases hp)
  obtain ⟨⟨a1, a2, a3, a4, a5, a6⟩, ok, hav⟩ := attrv_form (At.read l)
  rw [hav] at hp1 hr1
  obtain ⟨Q, hQ⟩ : ∃ Q, At.pairs l = Q := ⟨_, rfl⟩
  rw [hQ] at hp3 hr3 htx hal
  obtain ⟨lang, out, ok3⟩ := Q
  simp only at hp3 hr3 htx hal
  obtain ⟨nm, hnm⟩ : ∃ b, At.name l = b := ⟨_, rfl⟩
  rw [hnm] at hp2 hr2
  clear hQ hav hnm
  replace hT := Lib.hid hT
  replace htx := Lib.hid htx
  replace hal := Lib.hid hal
  change ∀ w, Tabs w → Calls Tryd.prog 12 #[.string (bs l)] w (fun e w' => e = .returned (.tuple #[.agg #[.string (bs a1), .string (bs a2), .string (bs a3), .string (bs a4), .bool a5, .bool a6], .bool ok]) ∧ Below w.heap.size w w') at hp1
  change ∀ w, Calls Tryd.prog 13 #[.string (bs l)] w (fun e w' => e = .returned (.tuple #[.agg #[.string (bs a1), .string (bs a2), .string (bs a3), .string (bs a4), .bool a5, .bool a6], .bool ok]) ∧ Below w.heap.size w w') at hr1
  go_enter Tryd.func7, Tryd.ntmps7
  go_wp2_with fail
  refine (hp1 _ hT.out).mono ?_
  rintro e w1 ⟨rfl, hb1⟩
  have hB1 := Lib.hid hb1
  clear hp1
  go_wp2_with fail
  refine (hr1 _).mono ?_
  rintro e w2 ⟨rfl, hb2⟩
  have hq1 := (keep (heap_alloc_new w1 (.cells #[.string (bs a1), .string (bs a2), .string (bs a3), .string (bs a4), .bool a5, .bool a6] 27)) hb2).1
  have hB2 := Lib.hid (ext_trans hB1.out (ext_trans (ext_alloc _ _) hb2))
  have hT2 := tabs_ext hT.out hB2.out
  clear hr1
  obtain ⟨y0, y1, y2, y3, y4, y5⟩ := six hq1
  have hlt2 := (Array.getElem?_eq_some_iff.1 hq1).1
  clear hq1 hb1 hb2
  go_wp2_with fail
  have hB3 := Lib.hid (hB2.out.alloc (by have := hB2.out.size; omega) (.cells #[.string (bs a1), .string (bs a2), .string (bs a3), .string (bs a4), .bool a5, .bool a6] 27))
  refine (hp2 _ (tabs_ext hT.out hB3.out)).mono ?_
  rintro e w3 ⟨rfl, hb3⟩
  have hB4 := Lib.hid (ext_trans hB3.out hb3)
  clear hp2 hT2 hb3 hB3 hB2 hB1 y0 y1 y2 y3 y4 y5
  go_wp2_with fail
  refine (hr2 _).mono ?_
  rintro e w4 ⟨rfl, hb4⟩
  have hB5 := Lib.hid (ext_trans hB4.out hb4)
  clear hr2 hb4 hB4
  go_wp2_with fail
  refine (hp3 _).mono ?_
  rintro e w5 ⟨⟨v5, rfl, hown5⟩, hb5⟩
  obtain ⟨A5, c5, rfl, hlc5⟩ := own_shape hown5
  have hom5 := own_max hown5
  have hR5 := Lib.hid (Row.own hown5)
  have hB6 := Lib.hid (ext_trans hB5.out hb5)
  clear hown5 hp3 hb5 hB5
  go_wp2_with fail
  refine (hr3 _).mono ?_
  rintro e w6 ⟨⟨v6, rfl, hown6⟩, hb6⟩
  obtain ⟨A6, c6, rfl, hlc6⟩ := own_shape hown6
  have hR6 := Lib.hid (Row.own hown6)
  have hR7 := Lib.hid (hR5.out.below hb6)
  have hB7 := Lib.hid (ext_trans hB6.out hb6)
  have hs56 := hb6.size
  clear hown6 hr3 hb6 hB6 hR5
  go_wp2_with fail
  go_loopw [70] (fun u wr => ∃ (k : Nat), k ≤ out.length ∧ u = .int .i64 (k : Int) ∧ Below w6.heap.size w6 wr) (fun u _ => out.length - (intOf u).toNat)
  case atStart => exact ⟨0, by omega, rfl, Below.refl _ _⟩
  case round =>
    obtain ⟨k, hk, rfl, hb⟩ := hrel
    by_cases hlt : k < out.length
    · obtain ⟨b5, o5, rfl, hb5, hc5⟩ := qpair_cell hR7.out (by omega)
      obtain ⟨b6, o6, rfl, hb6, hc6⟩ := pair_cell hR6.out (by omega)
      obtain ⟨c0, c1⟩ := hc5 k hlt
      obtain ⟨m0, m1, m2⟩ := hc6 k hlt
      have d0 := (hb.cell (p := ⟨b5, o5 + k * 2, none⟩) (by show b5 < _; omega)).trans c0
      have d1 := (hb.cell (p := ⟨b5, o5 + k * 2 + 1, none⟩) (by show b5 < _; omega)).trans c1
      have e0 := (hb.cell (p := ⟨b6, o6 + k * 3, none⟩) (by show b6 < _; omega)).trans m0
      have e1 := (hb.cell (p := ⟨b6, o6 + k * 3 + 1, none⟩) (by show b6 < _; omega)).trans m1
      have e2 := (hb.cell (p := ⟨b6, o6 + k * 3 + 2, none⟩) (by show b6 < _; omega)).trans m2
      have htl := htx.out _ (List.getElem_mem hlt)
      have hta := hal.out _ (List.getElem_mem hlt)
      obtain ⟨p, hp⟩ : ∃ p, out[k] = p := ⟨_, rfl⟩
      rw [hp] at d0 d1 e0 e1 e2 htl hta
      obtain ⟨key, text, alone⟩ := p
      simp only at d0 e0 e1 e2 htl hta
      clear hc5 hc6 c0 c1 m0 m1 m2 hp
      cases alone with
      | true =>
        obtain rfl := hta rfl
        have d1' : wr.cell? ⟨b5, o5 + k * 2 + 1, none⟩ = some (.iface 4 (.bool true)) := d1
        have e1' : wr.cell? ⟨b6, o6 + k * 3 + 1, none⟩ = some (.string ⟨#[]⟩) := e1
        have htf := text_flag
        clear d1 e1 hta
        go_wp2_with fail
        refine (htf _).mono ?_
        rintro e w7 ⟨rfl, hb7⟩
        have hbz := ext_trans hb hb7
        have d0' := (hb7.cell (p := ⟨b5, o5 + k * 2, none⟩) (by show b5 < _; have := hb.size; omega)).trans d0
        have e0' := (hb7.cell (p := ⟨b6, o6 + k * 3, none⟩) (by show b6 < _; have := hb.size; omega)).trans e0
        have e2' := (hb7.cell (p := ⟨b6, o6 + k * 3 + 2, none⟩) (by show b6 < _; have := hb.size; omega)).trans e2
        have e3' := (hb7.cell (p := ⟨b6, o6 + k * 3 + 1, none⟩) (by show b6 < _; have := hb.size; omega)).trans e1'
        clear d0 d1' e0 e1' e2 hb7 htf hb
        go_wp2_with fail
        go_quiet (fail)
        go_wp2_with fail
        go_quiet (fail)
        go_wp2_with fail
        go_roundw
        case rel => exact ⟨k + 1, by omega, by go_num, below_drewN hbz _⟩
        case measure => simp [intOf]; omega
      | false => 
        have htt := fun w => text_text text w (by omega)
        have hmt := fun w => must_text text w (by omega)
        have d1' : wr.cell? ⟨b5, o5 + k * 2 + 1, none⟩ = some (.iface 9 (.string (bs text))) := d1
        clear d1 hta
        go_wp2_with fail
        refine (htt _).mono ?_
        rintro e w7 ⟨rfl, hb7⟩
        have hbz := ext_trans hb hb7
        have d0' := (hb7.cell (p := ⟨b5, o5 + k * 2, none⟩) (by show b5 < _; have := hb.size; omega)).trans d0
        have d2' := (hb7.cell (p := ⟨b5, o5 + k * 2 + 1, none⟩) (by show b5 < _; have := hb.size; omega)).trans d1'
        have e0' := (hb7.cell (p := ⟨b6, o6 + k * 3, none⟩) (by show b6 < _; have := hb.size; omega)).trans e0
        have e2' := (hb7.cell (p := ⟨b6, o6 + k * 3 + 2, none⟩) (by show b6 < _; have := hb.size; omega)).trans e2
        have e3' := (hb7.cell (p := ⟨b6, o6 + k * 3 + 1, none⟩) (by show b6 < _; have := hb.size; omega)).trans e1
        clear d0 d1' e0 e1 e2 hb7 htt hb
        go_wp2_with fail
        go_quiet (fail)
        go_wp2_with fail
        refine wp_region_can [(true, 0), (true, 1), (true, 2), (true, 3), (true, 4), (true, 5), (true, 6), (true, 8), (true, 9), (true, 10), (true, 11), (true, 12), (false, 7), (true, 13), (true, 14)] (fun u => u.cell? ⟨b5, o5 + k * 2 + 1, none⟩ = some (.iface 9 (.string (bs text))) ∧ u.cell? ⟨b6, o6 + k * 3 + 1, none⟩ = some (.string (bs text))) ⟨d2', e3'⟩ (by kernel_rfl) (by kernel_rfl) (by kernel_rfl) (fun _ _ d _ _ h => by cases d <;> exact h) ?_
        repeat (first | refine wpCan_move rfl ?_ | (refine wpCan_cons rfl ?_; intro K hK; go_simp; refine hK _ _ _ ?_; clear hK K))
        refine wpCan_read (.iface 9 (.string (bs text))) rfl rfl ⟨d2', e3'⟩ (fun u hu => by obtain ⟨u1, u2⟩ := hu; go_simp) ?_
        repeat (first | refine wpCan_move rfl ?_ | (refine wpCan_cons rfl ?_; intro K hK; go_simp; refine hK _ _ _ ?_; clear hK K))
        refine wpCan_read (.string (bs text)) rfl rfl ⟨d2', e3'⟩ (fun u hu => by obtain ⟨u1, u2⟩ := hu; go_simp) ?_
        refine wpCan_cons rfl ?_
        intro K hK
        go_simp
        refine (hmt _).mono ?_
        rintro e w8 ⟨rfl, hb8⟩
        have hl7 : b5 < w7.heap.size ∧ b6 < w7.heap.size := by have := hbz.size; omega
        have d2'' := (hb8.cell (p := ⟨b5, o5 + k * 2 + 1, none⟩) hl7.1).trans d2'
        have e3'' := (hb8.cell (p := ⟨b6, o6 + k * 3 + 1, none⟩) hl7.2).trans e3'
        replace hbz := Lib.hid (ext_trans (below_drewN hbz _) hb8)
        refine can_same ⟨d2'', e3''⟩ (hK _ _ _ ?_)
        clear hK K
        repeat (first | refine wpCan_move rfl ?_ | (refine wpCan_cons rfl ?_; intro K hK; go_simp; refine hK _ _ _ ?_; clear hK K))
        refine wpCan_nil ?_
        go_wp2_with fail
        go_roundw
        case rel => exact ⟨k + 1, by omega, by go_num, hbz.out⟩
        case measure => simp [intOf]; omega
    · go_wp2_with fail
      go_ret
      exact ⟨rfl, ext_trans hB7.out hb⟩
end Go.Proofs.YtfppfaliepkhgaaDoor
