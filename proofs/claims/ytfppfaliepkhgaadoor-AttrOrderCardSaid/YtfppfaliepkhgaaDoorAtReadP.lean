/- Package attr: what an info says. -/
import Derived.Test.YtfppfaliepkhgaaDoorAtPut
import Derived.Test.YtfppfaliepkhgaaDoorAtPairsP
namespace Go.Proofs.YtfppfaliepkhgaaDoor
open Go.RowKit

/-- the cells of a row of pairs -/
theorem qpair_cell {ls : List At.Pr} {w : World} {B : Nat} {A : Option Addr} (h : Row w B 2 A ls.length (qcells ls)) (hn : 0 < ls.length) :
    ∃ b o, A = some ⟨b, o, none⟩ ∧ b < B ∧ ∀ k, (hk : k < ls.length) → w.cell? ⟨b, o + k * 2, none⟩ = some (.string (bs ls[k].key)) ∧ w.cell? ⟨b, o + k * 2 + 1, none⟩ = some (av ls[k]) := by
  obtain ⟨b, o, e, hb, hc⟩ := h.2 hn
  have key : ∀ (ls : List At.Pr) (k : Nat), (hk : k < ls.length) → (qcells ls)[k * 2]? = some (.string (bs ls[k].key)) ∧ (qcells ls)[k * 2 + 1]? = some (av ls[k]) := by
    intro ls
    induction ls with
    | nil => intro k hk; simp at hk
    | cons x r ih =>
      intro k hk
      match k, hk with
      | 0, _ => simp [qcells]
      | k + 1, hk =>
        have := ih k (by simpa using hk)
        have e : qcells (x :: r) = [.string (bs x.key), av x] ++ qcells r := rfl
        rw [e, Nat.add_mul]
        simpa [List.getElem?_append, Nat.add_assoc] using this
  refine ⟨b, o, e, hb, fun k hk => ?_⟩
  obtain ⟨k0, k1⟩ := key ls k hk
  refine ⟨hc _ _ k0, ?_⟩
  have := hc _ _ k1
  rwa [← Nat.add_assoc] at this

set_option maxHeartbeats 8000000 in
set_option maxRecDepth 100000 in
theorem pread_any (l : List UInt8) (w : World) (hl : l.length ≤ 1000000000) (hT : Tabs w) :
    Calls Tryd.prog 12 #[.string (bs l)] w fun e w' => e = .returned (attrv (At.read l)) ∧ Below w.heap.size w w' := by
  have hpr := fun w => ppairs_any l w hl
  have htx : ∀ p ∈ (At.pairs l).2.1, p.text.length ≤ l.length := At.prs_text _ _ _ _ _ (fun p hp => by cases hp)
  have hrd : At.read l = (At.steps (At.pairs l).2.1 ⟨(At.pairs l).1, [], [], [], false, false⟩).bind fun a => if (At.pairs l).2.2 = false ∨ (a.name ≠ [] ∧ a.file ≠ []) then none else some a := rfl
  obtain ⟨Q, hQ⟩ : ∃ Q, At.pairs l = Q := ⟨_, rfl⟩
  rw [hQ] at hpr htx hrd
  obtain ⟨lang, out, ok⟩ := Q
  simp only at hpr htx hrd
  clear hQ
  have hsz2 := tabs_size hT
  replace hrd := Lib.hid hrd
  replace htx := Lib.hid htx
  replace hT := Lib.hid hT
  go_enter Tryd.func12, Tryd.ntmps12
  go_wp2_with fail
  refine (hpr _).mono ?_
  rintro e w1 ⟨⟨v, rfl, hown⟩, hb1⟩
  obtain ⟨A, c, rfl, hlc⟩ := own_shape hown
  have hom := own_max hown
  have hR := Lib.hid (Row.own hown)
  have f1 := Lib.hid (blk hb1)
  have hg1 : w.heap.size < w1.heap.size := (keep (heap_alloc_new w _) hb1).2
  replace hb1 := Lib.hid (ext_trans (ext_alloc _ _) hb1)
  clear hown hpr
  cases ok with
  | false =>
    have hfin : Hid (At.read l = none) := Lib.hid (by
      rw [hrd.out]
      cases At.steps out ⟨lang, [], [], [], false, false⟩ with
      | none => rfl
      | some a => simp)
    obtain ⟨z0, z1, z2, z3, z4, z5⟩ := six f1.out
    have zf := blk_free f1.out
    go_wp2_with fail
    exact bodyPost_ret (v := attrv none) (by rw [results_cell_tmp rfl]; go_simp; rfl) rfl ⟨by rw [hfin.out], (((((hb1.out.setCell (Nat.le_refl _) _).setCell (Nat.le_refl _) _).setCell (Nat.le_refl _) _).setCell (Nat.le_refl _) _).setCell (Nat.le_refl _) _).setCell (Nat.le_refl _) _⟩
  | true =>
    go_wp2_with fail
    go_loopw [23] (fun u wr => ∃ (k : Nat) (a : At.Attr), k ≤ out.length ∧ u = .int .i64 (k : Int) ∧ Hid (At.steps (out.drop k) a = At.steps out ⟨lang, [], [], [], false, false⟩) ∧ Hid (wr.heap[w1.heap.size]? = some (.cells (acells a) 27)) ∧ Below w1.heap.size w1 wr) (fun u _ => out.length - (intOf u).toNat)
    case atStart => exact ⟨0, ⟨lang, [], [], [], false, false⟩, by omega, rfl, Lib.hid rfl, Lib.hid (heap_alloc_new w1 _), ext_alloc _ _⟩
    case round =>
      obtain ⟨k, a, hk, rfl, hst, fa, hb⟩ := hrel
      have hga : w1.heap.size < wr.heap.size := (Array.getElem?_eq_some_iff.1 fa.out).1
      by_cases hlt : k < out.length
      · obtain ⟨bb, oo, rfl, hbb, hc⟩ := qpair_cell hR.out (by omega)
        obtain ⟨c0, c1⟩ := hc k hlt
        have d0 := (hb.cell hbb).trans c0
        have d1 := (hb.cell hbb).trans c1
        have hsa := @steps_at out k a hlt
        have htl := htx.out _ (List.getElem_mem hlt)
        obtain ⟨p, hp⟩ : ∃ p, out[k] = p := ⟨_, rfl⟩
        rw [hp] at d0 d1 hsa htl
        obtain ⟨vt, vx, hav⟩ := av_shape p
        have hTr := tabs_low hT.out (hb1.out.trans (hb.mono (Nat.le_of_lt hg1))) hsz2
        have hput := fun o => put_any a p w1.heap.size (wr.alloc o) (at_new fa.out) (tabs_ext hTr (ext_alloc _ _)) (by omega) (by omega)
        rw [hav] at d1 hput
        replace hst := Lib.hid (hsa.symm.trans hst.out)
        clear hc c0 c1 hp hav hsa hTr
        go_wp2_with fail
        refine (hput _).mono ?_
        rintro e w5 ⟨okp, a', rfl, fa5, hstep, hb5⟩
        have hb6 := hb.trans ((below_new _ _ hga _).trans hb5)
        have fz := Lib.hid ((hb6.block _ hg1).trans f1.out)
        cases okp with
        | false =>
          have hfin : Hid (At.read l = none) := Lib.hid (by rw [hrd.out, ← hst.out, hstep]; rfl)
          obtain ⟨z0, z1, z2, z3, z4, z5⟩ := six fz.out
          have zf := blk_free fz.out
          have hbz := Lib.hid (hb1.out.trans (hb6.mono (Nat.le_of_lt hg1)))
          clear hb5 hb6 fa5 hstep hput
          go_wp2_with fail
          exact bodyPost_ret (v := attrv none) (by rw [results_cell_tmp rfl]; go_simp; rfl) rfl ⟨by rw [hfin.out], (((((hbz.out.setCell (Nat.le_refl _) _).setCell (Nat.le_refl _) _).setCell (Nat.le_refl _) _).setCell (Nat.le_refl _) _).setCell (Nat.le_refl _) _).setCell (Nat.le_refl _) _⟩
        | true =>
          have hst2 : Hid (At.steps (out.drop (k + 1)) a' = At.steps out ⟨lang, [], [], [], false, false⟩) := Lib.hid (by rw [← hst.out, hstep]; rfl)
          replace fa5 := Lib.hid fa5
          clear hb5 hstep hput
          go_wp2_with fail
          go_roundw
          case rel => exact ⟨k + 1, a', by omega, by go_num, hst2, fa5, hb6⟩
          case measure => simp [intOf]; omega
      · have hnil : At.steps out ⟨lang, [], [], [], false, false⟩ = some a := by
          rw [← hst.out, List.drop_eq_nil_of_le (by omega)]; rfl
        have hrd2 : At.read l = if true = false ∨ (a.name ≠ [] ∧ a.file ≠ []) then none else some a := by rw [hrd.out, hnil]; rfl
        have fz := Lib.hid ((hb.block _ hg1).trans f1.out)
        have hbz := Lib.hid (hb1.out.trans (hb.mono (Nat.le_of_lt hg1)))
        obtain ⟨z0, z1, z2, z3, z4, z5⟩ := six fz.out
        have zf := blk_free fz.out
        obtain ⟨y0, y1, y2, y3, y4, y5⟩ := six fa.out
        obtain ⟨an, nm, fl, sy, ap, nl⟩ := a
        simp only at hrd2 y0 y1 y2 y3 y4 y5
        clear hnil hst
        rcases nm with _ | ⟨n1, n2⟩
        · have hfin : Hid (At.read l = some ⟨an, [], fl, sy, ap, nl⟩) := Lib.hid (by rw [hrd2, if_neg (by simp)])
          have tn := text_nil
          clear hrd2
          go_wp2_with fail
          exact bodyPost_ret (v := attrv (some ⟨an, [], fl, sy, ap, nl⟩)) (by rw [results_cell_tmp rfl]; go_simp; rfl) rfl ⟨by rw [hfin.out], (((((hbz.out.setCell (Nat.le_refl _) _).setCell (Nat.le_refl _) _).setCell (Nat.le_refl _) _).setCell (Nat.le_refl _) _).setCell (Nat.le_refl _) _).setCell (Nat.le_refl _) _⟩
        · have tn := text_cons n1 n2
          rcases fl with _ | ⟨m1, m2⟩
          · have hfin : Hid (At.read l = some ⟨an, n1 :: n2, [], sy, ap, nl⟩) := Lib.hid (by rw [hrd2, if_neg (by simp)])
            have tm := text_nil
            clear hrd2
            go_wp2_with fail
            exact bodyPost_ret (v := attrv (some ⟨an, n1 :: n2, [], sy, ap, nl⟩)) (by rw [results_cell_tmp rfl]; go_simp; rfl) rfl ⟨by rw [hfin.out], (((((hbz.out.setCell (Nat.le_refl _) _).setCell (Nat.le_refl _) _).setCell (Nat.le_refl _) _).setCell (Nat.le_refl _) _).setCell (Nat.le_refl _) _).setCell (Nat.le_refl _) _⟩
          · have hfin : Hid (At.read l = none) := Lib.hid (by rw [hrd2, if_pos (.inr ⟨by simp, by simp⟩)])
            have tm := text_cons m1 m2
            clear hrd2
            go_wp2_with fail
            exact bodyPost_ret (v := attrv none) (by rw [results_cell_tmp rfl]; go_simp; rfl) rfl ⟨by rw [hfin.out], (((((hbz.out.setCell (Nat.le_refl _) _).setCell (Nat.le_refl _) _).setCell (Nat.le_refl _) _).setCell (Nat.le_refl _) _).setCell (Nat.le_refl _) _).setCell (Nat.le_refl _) _⟩
end Go.Proofs.YtfppfaliepkhgaaDoor
