/- The document's own answer of chapter 5: what an info says. -/
import Derived.Test.YtfppfaliepkhgaaDoorAtReadMath
namespace Go.Proofs.YtfppfaliepkhgaaDoor
open Go.RowKit

set_option maxHeartbeats 8000000 in
set_option maxRecDepth 100000 in
theorem read_any (l : List UInt8) (w : World) (hl : l.length ≤ 1000000000) :
    Calls Tryd.prog 13 #[.string (bs l)] w fun e w' => e = .returned (attrv (At.read l)) ∧ Below w.heap.size w w' := by
  have hpr := fun w => pairs_any l w hl
  have htx : ∀ p ∈ (At.pairs l).2.1, p.text.length ≤ l.length := At.prs_text _ _ _ _ _ (fun p hp => by cases hp)
  have hrd : At.read l = (At.steps (At.pairs l).2.1 ⟨(At.pairs l).1, [], [], [], false, false⟩).bind fun a => if (At.pairs l).2.2 = false ∨ (a.name ≠ [] ∧ a.file ≠ []) then none else some a := rfl
  obtain ⟨Q, hQ⟩ : ∃ Q, At.pairs l = Q := ⟨_, rfl⟩
  rw [hQ] at hpr htx hrd
  obtain ⟨lang, out, ok⟩ := Q
  simp only at hpr htx hrd
  clear hQ
  replace hrd := Lib.hid hrd
  replace htx := Lib.hid htx
  go_enter Tryd.func13, Tryd.ntmps13
  go_wp2_with fail
  refine (hpr _).mono ?_
  rintro e w1 ⟨⟨v, rfl, hown⟩, hb1⟩
  obtain ⟨A, c, rfl, hlc⟩ := own_shape hown
  have hom := own_max hown
  have hR := Lib.hid (Row.own hown)
  have f1 := Lib.hid (blk hb1)
  have hg1 : w.heap.size < w1.heap.size := (keep (heap_alloc_new w _) hb1).2
  replace hb1 := Lib.hid (ext_trans (ext_alloc _ _) hb1)
  clear hown
  go_wp2_with fail
  go_loopw [20] (fun u wr => ∃ (k : Nat) (a : At.Attr), k ≤ out.length ∧ u = .int .i64 (k : Int) ∧ Hid (At.steps (out.drop k) a = At.steps out ⟨lang, [], [], [], false, false⟩) ∧ Hid (wr.heap[w1.heap.size]? = some (.cells (acells a) 27)) ∧ Below w1.heap.size w1 wr) (fun u _ => out.length - (intOf u).toNat)
  case atStart => exact ⟨0, ⟨lang, [], [], [], false, false⟩, by omega, rfl, Lib.hid rfl, Lib.hid (heap_alloc_new w1 _), ext_alloc _ _⟩
  case round =>
    obtain ⟨k, a, hk, rfl, hst, fa, hb⟩ := hrel
    have fz := Lib.hid (keep f1.out hb).1
    have hga : w1.heap.size < wr.heap.size := (Array.getElem?_eq_some_iff.1 fa.out).1
    have hzw : w.heap.size < wr.heap.size := by omega
    by_cases hlt : k < out.length
    · obtain ⟨bb, oo, rfl, hbb, hc⟩ := pair_cell hR.out (by omega)
      obtain ⟨c0, c1, c2⟩ := hc k hlt
      have d0 := (hb.cell hbb).trans c0
      have d1 := (hb.cell hbb).trans c1
      have d2 := (hb.cell hbb).trans c2
      have hsa := @steps_at out k a hlt
      have htl := htx.out _ (List.getElem_mem hlt)
      obtain ⟨q, hq⟩ : ∃ q, out[k] = q := ⟨_, rfl⟩
      rw [hq] at d0 d1 d2 hsa htl
      obtain ⟨key, text, alone⟩ := q
      simp only at d0 d1 d2 htl
      have hnm := fun w => name_any text w (by omega)
      have hsy := fun w => style_any text w (by omega)
      clear hc c0 c1 c2 hq
      go_upto_block 2 with fail
      have q5 := heap_alloc_new wr (.cells #[.string (bs key), .string (bs text), .bool alone] 46)
      have a5 := (keep fa.out (ext_alloc wr (.cells #[.string (bs key), .string (bs text), .bool alone] 46))).1
      have z5 := (keep fz.out (ext_alloc wr (.cells #[.string (bs key), .string (bs text), .bool alone] 46))).1
      have hb5 := Lib.hid (hb.trans ((ext_alloc wr (.cells #[.string (bs key), .string (bs text), .bool alone] 46)).mono hb.size))
      obtain ⟨wq, hwq⟩ : ∃ wq, wr.alloc (.cells #[.string (bs key), .string (bs text), .bool alone] 46) = wq := ⟨_, rfl⟩
      rw [hwq] at q5 a5 z5 hb5 ⊢
      have hsz := (Array.getElem?_eq_some_iff.1 q5).1
      obtain ⟨k0, k1, k2⟩ := three q5
      obtain ⟨y0, y1, y2, y3, y4, y5⟩ := six a5
      have yf := blk_free a5
      replace a5 := Lib.hid a5
      replace z5 := Lib.hid z5
      replace q5 := Lib.hid q5
      clear hwq d0 d1 d2 fa fz
      by_cases hk0 : key = At.wName
      · have t0 : ((bs key).toList == [110, 97, 109, 101]) = true := key_is (w := At.wName) hk0
        have t1 : ((bs key).toList == [102, 105, 108, 101]) = false := key_not (w := At.wFile) (by rw [hk0]; decide)
        have t2 : ((bs key).toList == [99, 111, 109, 109, 101, 110, 116]) = false := key_not (w := At.wComment) (by rw [hk0]; decide)
        have t3 : ((bs key).toList == [97, 112, 112, 101, 110, 100]) = false := key_not (w := At.wAppend) (by rw [hk0]; decide)
        have t4 : ((bs key).toList == [110, 111, 108, 105, 110, 101]) = false := key_not (w := At.wNoline) (by rw [hk0]; decide)
        cases alone with
        | true =>
          have hfin : Hid (At.read l = none) := Lib.hid (by rw [hrd.out, ← hst.out, hsa, show At.step a ⟨key, text, true⟩ = none from by rw [hk0]; simp [At.step, At.wName, At.wFile, At.wComment, At.wAppend, At.wNoline]]; rfl)
          clear hsa hnm hsy hk0
          obtain ⟨v0, v1, v2, v3, v4, v5⟩ := six z5.out
          have zf := blk_free z5.out
          have hbz := Lib.hid (hb1.out.trans (hb5.out.mono (Nat.le_of_lt hg1)))
          go_wp2_with fail
          exact bodyPost_ret (v := attrv none) (by rw [results_cell_tmp rfl]; go_simp; rfl) rfl ⟨by rw [hfin.out], (((((hbz.out.setCell (Nat.le_refl _) _).setCell (Nat.le_refl _) _).setCell (Nat.le_refl _) _).setCell (Nat.le_refl _) _).setCell (Nat.le_refl _) _).setCell (Nat.le_refl _) _⟩
        | false =>
          obtain ⟨Bn, hBn⟩ : ∃ B, At.name text = B := ⟨_, rfl⟩
          rw [hBn] at hnm
          cases Bn with
          | true =>
            have hst2 : Hid (At.steps (out.drop (k + 1)) { a with name := text } = At.steps out ⟨lang, [], [], [], false, false⟩) := Lib.hid (by rw [← hst.out, hsa, show At.step a ⟨key, text, false⟩ = some { a with name := text } from by rw [hk0]; simp [hBn, At.step, At.wName]]; rfl)
            clear hsa hk0 hBn
            go_wp2_with fail
            refine (hnm _).mono ?_
            rintro e w5 ⟨rfl, hb6⟩
            have a6 := (keep a5.out hb6).1
            obtain ⟨k0, k1, k2⟩ := three (keep q5.out hb6).1
            obtain ⟨y0, y1, y2, y3, y4, y5⟩ := six a6
            have yf := blk_free a6
            have hb7 := Lib.hid (hb5.out.trans (hb6.mono hb5.out.size))
            replace a6 := Lib.hid a6
            clear hb6 hnm hsy
            go_wp2_with fail
            go_roundw
            case rel => exact ⟨k + 1, { a with name := text }, by omega, by go_num, hst2, Lib.hid (heap_setCell_same _ _ 1 _ _ _ a6.out), hb7.out.setCell (Nat.le_refl _) _⟩
            case measure => simp [intOf]; omega
          | false =>
            have hfin : Hid (At.read l = none) := Lib.hid (by rw [hrd.out, ← hst.out, hsa, show At.step a ⟨key, text, false⟩ = none from by rw [hk0]; simp [hBn, At.step, At.wName, At.wFile, At.wComment, At.wAppend, At.wNoline]]; rfl)
            clear hsa hk0 hBn
            go_wp2_with fail
            refine (hnm _).mono ?_
            rintro e w5 ⟨rfl, hb6⟩
            have z6 := (keep z5.out hb6).1
            obtain ⟨k0, k1, k2⟩ := three (keep q5.out hb6).1
            have hb7 := Lib.hid (hb5.out.trans (hb6.mono hb5.out.size))
            clear hb6 hnm hsy
            obtain ⟨v0, v1, v2, v3, v4, v5⟩ := six z6
            have zf := blk_free z6
            have hbz := Lib.hid (hb1.out.trans (hb7.out.mono (Nat.le_of_lt hg1)))
            clear z6
            go_wp2_with fail
            exact bodyPost_ret (v := attrv none) (by rw [results_cell_tmp rfl]; go_simp; rfl) rfl ⟨by rw [hfin.out], (((((hbz.out.setCell (Nat.le_refl _) _).setCell (Nat.le_refl _) _).setCell (Nat.le_refl _) _).setCell (Nat.le_refl _) _).setCell (Nat.le_refl _) _).setCell (Nat.le_refl _) _⟩
      by_cases hk1 : key = At.wFile
      · have t1 : ((bs key).toList == [102, 105, 108, 101]) = true := key_is (w := At.wFile) hk1
        have t0 : ((bs key).toList == [110, 97, 109, 101]) = false := key_not (w := At.wName) (by rw [hk1]; decide)
        have t2 : ((bs key).toList == [99, 111, 109, 109, 101, 110, 116]) = false := key_not (w := At.wComment) (by rw [hk1]; decide)
        have t3 : ((bs key).toList == [97, 112, 112, 101, 110, 100]) = false := key_not (w := At.wAppend) (by rw [hk1]; decide)
        have t4 : ((bs key).toList == [110, 111, 108, 105, 110, 101]) = false := key_not (w := At.wNoline) (by rw [hk1]; decide)
        cases alone with
        | true =>
          have hfin : Hid (At.read l = none) := Lib.hid (by rw [hrd.out, ← hst.out, hsa, show At.step a ⟨key, text, true⟩ = none from by rw [hk1]; simp [At.step, At.wName, At.wFile, At.wComment, At.wAppend, At.wNoline]]; rfl)
          clear hsa hnm hsy hk1
          obtain ⟨v0, v1, v2, v3, v4, v5⟩ := six z5.out
          have zf := blk_free z5.out
          have hbz := Lib.hid (hb1.out.trans (hb5.out.mono (Nat.le_of_lt hg1)))
          go_wp2_with fail
          exact bodyPost_ret (v := attrv none) (by rw [results_cell_tmp rfl]; go_simp; rfl) rfl ⟨by rw [hfin.out], (((((hbz.out.setCell (Nat.le_refl _) _).setCell (Nat.le_refl _) _).setCell (Nat.le_refl _) _).setCell (Nat.le_refl _) _).setCell (Nat.le_refl _) _).setCell (Nat.le_refl _) _⟩
        | false =>
          obtain ⟨Bn, hBn⟩ : ∃ B, At.name text = B := ⟨_, rfl⟩
          rw [hBn] at hnm
          cases Bn with
          | true =>
            have hst2 : Hid (At.steps (out.drop (k + 1)) { a with file := text } = At.steps out ⟨lang, [], [], [], false, false⟩) := Lib.hid (by rw [← hst.out, hsa, show At.step a ⟨key, text, false⟩ = some { a with file := text } from by rw [hk1]; simp [hBn, At.step, At.wName, At.wFile]]; rfl)
            clear hsa hk1 hBn
            go_wp2_with fail
            refine (hnm _).mono ?_
            rintro e w5 ⟨rfl, hb6⟩
            have a6 := (keep a5.out hb6).1
            obtain ⟨k0, k1, k2⟩ := three (keep q5.out hb6).1
            obtain ⟨y0, y1, y2, y3, y4, y5⟩ := six a6
            have yf := blk_free a6
            have hb7 := Lib.hid (hb5.out.trans (hb6.mono hb5.out.size))
            replace a6 := Lib.hid a6
            clear hb6 hnm hsy
            go_wp2_with fail
            go_roundw
            case rel => exact ⟨k + 1, { a with file := text }, by omega, by go_num, hst2, Lib.hid (heap_setCell_same _ _ 2 _ _ _ a6.out), hb7.out.setCell (Nat.le_refl _) _⟩
            case measure => simp [intOf]; omega
          | false =>
            have hfin : Hid (At.read l = none) := Lib.hid (by rw [hrd.out, ← hst.out, hsa, show At.step a ⟨key, text, false⟩ = none from by rw [hk1]; simp [hBn, At.step, At.wName, At.wFile, At.wComment, At.wAppend, At.wNoline]]; rfl)
            clear hsa hk1 hBn
            go_wp2_with fail
            refine (hnm _).mono ?_
            rintro e w5 ⟨rfl, hb6⟩
            have z6 := (keep z5.out hb6).1
            obtain ⟨k0, k1, k2⟩ := three (keep q5.out hb6).1
            have hb7 := Lib.hid (hb5.out.trans (hb6.mono hb5.out.size))
            clear hb6 hnm hsy
            obtain ⟨v0, v1, v2, v3, v4, v5⟩ := six z6
            have zf := blk_free z6
            have hbz := Lib.hid (hb1.out.trans (hb7.out.mono (Nat.le_of_lt hg1)))
            clear z6
            go_wp2_with fail
            exact bodyPost_ret (v := attrv none) (by rw [results_cell_tmp rfl]; go_simp; rfl) rfl ⟨by rw [hfin.out], (((((hbz.out.setCell (Nat.le_refl _) _).setCell (Nat.le_refl _) _).setCell (Nat.le_refl _) _).setCell (Nat.le_refl _) _).setCell (Nat.le_refl _) _).setCell (Nat.le_refl _) _⟩
      by_cases hk2 : key = At.wComment
      · have t2 : ((bs key).toList == [99, 111, 109, 109, 101, 110, 116]) = true := key_is (w := At.wComment) hk2
        have t0 : ((bs key).toList == [110, 97, 109, 101]) = false := key_not (w := At.wName) (by rw [hk2]; decide)
        have t1 : ((bs key).toList == [102, 105, 108, 101]) = false := key_not (w := At.wFile) (by rw [hk2]; decide)
        have t3 : ((bs key).toList == [97, 112, 112, 101, 110, 100]) = false := key_not (w := At.wAppend) (by rw [hk2]; decide)
        have t4 : ((bs key).toList == [110, 111, 108, 105, 110, 101]) = false := key_not (w := At.wNoline) (by rw [hk2]; decide)
        cases alone with
        | true =>
          have hfin : Hid (At.read l = none) := Lib.hid (by rw [hrd.out, ← hst.out, hsa, show At.step a ⟨key, text, true⟩ = none from by rw [hk2]; simp [At.step, At.wName, At.wFile, At.wComment, At.wAppend, At.wNoline]]; rfl)
          clear hsa hnm hsy hk2
          obtain ⟨v0, v1, v2, v3, v4, v5⟩ := six z5.out
          have zf := blk_free z5.out
          have hbz := Lib.hid (hb1.out.trans (hb5.out.mono (Nat.le_of_lt hg1)))
          go_wp2_with fail
          exact bodyPost_ret (v := attrv none) (by rw [results_cell_tmp rfl]; go_simp; rfl) rfl ⟨by rw [hfin.out], (((((hbz.out.setCell (Nat.le_refl _) _).setCell (Nat.le_refl _) _).setCell (Nat.le_refl _) _).setCell (Nat.le_refl _) _).setCell (Nat.le_refl _) _).setCell (Nat.le_refl _) _⟩
        | false =>
          obtain ⟨Bn, hBn⟩ : ∃ B, At.style text = B := ⟨_, rfl⟩
          rw [hBn] at hsy
          cases Bn with
          | true =>
            have hst2 : Hid (At.steps (out.drop (k + 1)) { a with style := text } = At.steps out ⟨lang, [], [], [], false, false⟩) := Lib.hid (by rw [← hst.out, hsa, show At.step a ⟨key, text, false⟩ = some { a with style := text } from by rw [hk2]; simp [hBn, At.step, At.wName, At.wFile, At.wComment]]; rfl)
            clear hsa hk2 hBn
            go_wp2_with fail
            refine (hsy _).mono ?_
            rintro e w' ⟨rfl, rfl⟩
            clear hnm hsy
            go_wp2_with fail
            go_roundw
            case rel => exact ⟨k + 1, { a with style := text }, by omega, by go_num, hst2, Lib.hid (heap_setCell_same _ _ 3 _ _ _ a5.out), hb5.out.setCell (Nat.le_refl _) _⟩
            case measure => simp [intOf]; omega
          | false =>
            have hfin : Hid (At.read l = none) := Lib.hid (by rw [hrd.out, ← hst.out, hsa, show At.step a ⟨key, text, false⟩ = none from by rw [hk2]; simp [hBn, At.step, At.wName, At.wFile, At.wComment, At.wAppend, At.wNoline]]; rfl)
            clear hsa hk2 hBn
            go_wp2_with fail
            refine (hsy _).mono ?_
            rintro e w' ⟨rfl, rfl⟩
            clear hnm hsy
            obtain ⟨v0, v1, v2, v3, v4, v5⟩ := six z5.out
            have zf := blk_free z5.out
            have hbz := Lib.hid (hb1.out.trans (hb5.out.mono (Nat.le_of_lt hg1)))
            go_wp2_with fail
            exact bodyPost_ret (v := attrv none) (by rw [results_cell_tmp rfl]; go_simp; rfl) rfl ⟨by rw [hfin.out], (((((hbz.out.setCell (Nat.le_refl _) _).setCell (Nat.le_refl _) _).setCell (Nat.le_refl _) _).setCell (Nat.le_refl _) _).setCell (Nat.le_refl _) _).setCell (Nat.le_refl _) _⟩
      by_cases hk3 : key = At.wAppend
      · have t3 : ((bs key).toList == [97, 112, 112, 101, 110, 100]) = true := key_is (w := At.wAppend) hk3
        have t0 : ((bs key).toList == [110, 97, 109, 101]) = false := key_not (w := At.wName) (by rw [hk3]; decide)
        have t1 : ((bs key).toList == [102, 105, 108, 101]) = false := key_not (w := At.wFile) (by rw [hk3]; decide)
        have t2 : ((bs key).toList == [99, 111, 109, 109, 101, 110, 116]) = false := key_not (w := At.wComment) (by rw [hk3]; decide)
        have t4 : ((bs key).toList == [110, 111, 108, 105, 110, 101]) = false := key_not (w := At.wNoline) (by rw [hk3]; decide)
        cases alone with
        | true =>
          have hst2 : Hid (At.steps (out.drop (k + 1)) { a with append := true } = At.steps out ⟨lang, [], [], [], false, false⟩) := Lib.hid (by rw [← hst.out, hsa, show At.step a ⟨key, text, true⟩ = some { a with append := true } from by rw [hk3]; simp [At.step, At.wName, At.wFile, At.wComment, At.wAppend]]; rfl)
          clear hsa hnm hsy hk3
          go_wp2_with fail
          go_roundw
          case rel => exact ⟨k + 1, { a with append := true }, by omega, by go_num, hst2, Lib.hid (heap_setCell_same _ _ 4 _ _ _ a5.out), hb5.out.setCell (Nat.le_refl _) _⟩
          case measure => simp [intOf]; omega
        | false =>
          have hfin : Hid (At.read l = none) := Lib.hid (by rw [hrd.out, ← hst.out, hsa, show At.step a ⟨key, text, false⟩ = none from by rw [hk3]; simp [At.step, At.wName, At.wFile, At.wComment, At.wAppend, At.wNoline]]; rfl)
          clear hsa hnm hsy hk3
          obtain ⟨v0, v1, v2, v3, v4, v5⟩ := six z5.out
          have zf := blk_free z5.out
          have hbz := Lib.hid (hb1.out.trans (hb5.out.mono (Nat.le_of_lt hg1)))
          go_wp2_with fail
          exact bodyPost_ret (v := attrv none) (by rw [results_cell_tmp rfl]; go_simp; rfl) rfl ⟨by rw [hfin.out], (((((hbz.out.setCell (Nat.le_refl _) _).setCell (Nat.le_refl _) _).setCell (Nat.le_refl _) _).setCell (Nat.le_refl _) _).setCell (Nat.le_refl _) _).setCell (Nat.le_refl _) _⟩
      by_cases hk4 : key = At.wNoline
      · have t4 : ((bs key).toList == [110, 111, 108, 105, 110, 101]) = true := key_is (w := At.wNoline) hk4
        have t0 : ((bs key).toList == [110, 97, 109, 101]) = false := key_not (w := At.wName) (by rw [hk4]; decide)
        have t1 : ((bs key).toList == [102, 105, 108, 101]) = false := key_not (w := At.wFile) (by rw [hk4]; decide)
        have t2 : ((bs key).toList == [99, 111, 109, 109, 101, 110, 116]) = false := key_not (w := At.wComment) (by rw [hk4]; decide)
        have t3 : ((bs key).toList == [97, 112, 112, 101, 110, 100]) = false := key_not (w := At.wAppend) (by rw [hk4]; decide)
        cases alone with
        | true =>
          have hst2 : Hid (At.steps (out.drop (k + 1)) { a with noline := true } = At.steps out ⟨lang, [], [], [], false, false⟩) := Lib.hid (by rw [← hst.out, hsa, show At.step a ⟨key, text, true⟩ = some { a with noline := true } from by rw [hk4]; simp [At.step, At.wName, At.wFile, At.wComment, At.wAppend, At.wNoline]]; rfl)
          clear hsa hnm hsy hk4
          go_wp2_with fail
          go_roundw
          case rel => exact ⟨k + 1, { a with noline := true }, by omega, by go_num, hst2, Lib.hid (heap_setCell_same _ _ 5 _ _ _ a5.out), hb5.out.setCell (Nat.le_refl _) _⟩
          case measure => simp [intOf]; omega
        | false =>
          have hfin : Hid (At.read l = none) := Lib.hid (by rw [hrd.out, ← hst.out, hsa, show At.step a ⟨key, text, false⟩ = none from by rw [hk4]; simp [At.step, At.wName, At.wFile, At.wComment, At.wAppend, At.wNoline]]; rfl)
          clear hsa hnm hsy hk4
          obtain ⟨v0, v1, v2, v3, v4, v5⟩ := six z5.out
          have zf := blk_free z5.out
          have hbz := Lib.hid (hb1.out.trans (hb5.out.mono (Nat.le_of_lt hg1)))
          go_wp2_with fail
          exact bodyPost_ret (v := attrv none) (by rw [results_cell_tmp rfl]; go_simp; rfl) rfl ⟨by rw [hfin.out], (((((hbz.out.setCell (Nat.le_refl _) _).setCell (Nat.le_refl _) _).setCell (Nat.le_refl _) _).setCell (Nat.le_refl _) _).setCell (Nat.le_refl _) _).setCell (Nat.le_refl _) _⟩
      have t0 : ((bs key).toList == [110, 97, 109, 101]) = false := key_not (w := At.wName) hk0
      have t1 : ((bs key).toList == [102, 105, 108, 101]) = false := key_not (w := At.wFile) hk1
      have t2 : ((bs key).toList == [99, 111, 109, 109, 101, 110, 116]) = false := key_not (w := At.wComment) hk2
      have t3 : ((bs key).toList == [97, 112, 112, 101, 110, 100]) = false := key_not (w := At.wAppend) hk3
      have t4 : ((bs key).toList == [110, 111, 108, 105, 110, 101]) = false := key_not (w := At.wNoline) hk4
      have hfin : Hid (At.read l = none) := Lib.hid (by rw [hrd.out, ← hst.out, hsa, show At.step a ⟨key, text, alone⟩ = none from by simp [At.step, hk0, hk1, hk2, hk3, hk4]]; rfl)
      clear hsa hnm hsy hk0 hk1 hk2 hk3 hk4
      obtain ⟨v0, v1, v2, v3, v4, v5⟩ := six z5.out
      have zf := blk_free z5.out
      have hbz := Lib.hid (hb1.out.trans (hb5.out.mono (Nat.le_of_lt hg1)))
      go_wp2_with fail
      exact bodyPost_ret (v := attrv none) (by rw [results_cell_tmp rfl]; go_simp; rfl) rfl ⟨by rw [hfin.out], (((((hbz.out.setCell (Nat.le_refl _) _).setCell (Nat.le_refl _) _).setCell (Nat.le_refl _) _).setCell (Nat.le_refl _) _).setCell (Nat.le_refl _) _).setCell (Nat.le_refl _) _⟩
    · have hnil : At.steps out ⟨lang, [], [], [], false, false⟩ = some a := by
        rw [← hst.out, List.drop_eq_nil_of_le (by omega)]; rfl
      have hrd2 : At.read l = if ok = false ∨ (a.name ≠ [] ∧ a.file ≠ []) then none else some a := by rw [hrd.out, hnil]; rfl
      have hbz := Lib.hid (hb1.out.trans (hb.mono (Nat.le_of_lt hg1)))
      obtain ⟨z0, z1, z2, z3, z4, z5⟩ := six fz.out
      have zf := blk_free fz.out
      obtain ⟨y0, y1, y2, y3, y4, y5⟩ := six fa.out
      obtain ⟨an, nm, fl, sy, ap, nl⟩ := a
      simp only at hrd2 y0 y1 y2 y3 y4 y5
      clear hnil hst
      cases ok with
      | false =>
        have hfin : Hid (At.read l = none) := Lib.hid (by rw [hrd2, if_pos (.inl rfl)])
        clear hrd2
        go_wp2_with fail
        exact bodyPost_ret (v := attrv none) (by rw [results_cell_tmp rfl]; go_simp; rfl) rfl ⟨by rw [hfin.out], (((((hbz.out.setCell (Nat.le_refl _) _).setCell (Nat.le_refl _) _).setCell (Nat.le_refl _) _).setCell (Nat.le_refl _) _).setCell (Nat.le_refl _) _).setCell (Nat.le_refl _) _⟩
      | true =>
        rcases nm with _ | ⟨n1, n2⟩
        · have hfin : Hid (At.read l = some ⟨an, [], fl, sy, ap, nl⟩) := Lib.hid (by rw [hrd2, if_neg (by simp)])
          have tn := text_nil
          clear hrd2
          go_wp2_with fail
          exact bodyPost_ret (v := attrv (some ⟨an, [], fl, sy, ap, nl⟩)) (by rw [results_cell_tmp rfl]; go_simp; rfl) rfl ⟨by rw [hfin.out], (((((hbz.out.setCell (Nat.le_refl _) _).setCell (Nat.le_refl _) _).setCell (Nat.le_refl _) _).setCell (Nat.le_refl _) _).setCell (Nat.le_refl _) _).setCell (Nat.le_refl _) _⟩
        · have tn := text_cons n1 n2
          rcases fl with _ | ⟨m1, m2⟩
          · have hfin : Hid (At.read l = some ⟨an, n1 :: n2, [], sy, ap, nl⟩) := Lib.hid (by rw [hrd2, if_neg (by simp)])
            have tm := text_nil
            clear hrd2
            go_wp2_with fail
            exact bodyPost_ret (v := attrv (some ⟨an, n1 :: n2, [], sy, ap, nl⟩)) (by rw [results_cell_tmp rfl]; go_simp; rfl) rfl ⟨by rw [hfin.out], (((((hbz.out.setCell (Nat.le_refl _) _).setCell (Nat.le_refl _) _).setCell (Nat.le_refl _) _).setCell (Nat.le_refl _) _).setCell (Nat.le_refl _) _).setCell (Nat.le_refl _) _⟩
          · have hfin : Hid (At.read l = none) := Lib.hid (by rw [hrd2, if_pos (.inr ⟨by simp, by simp⟩)])
            have tm := text_cons m1 m2
            clear hrd2
            go_wp2_with fail
            exact bodyPost_ret (v := attrv none) (by rw [results_cell_tmp rfl]; go_simp; rfl) rfl ⟨by rw [hfin.out], (((((hbz.out.setCell (Nat.le_refl _) _).setCell (Nat.le_refl _) _).setCell (Nat.le_refl _) _).setCell (Nat.le_refl _) _).setCell (Nat.le_refl _) _).setCell (Nat.le_refl _) _⟩
end Go.Proofs.YtfppfaliepkhgaaDoor
