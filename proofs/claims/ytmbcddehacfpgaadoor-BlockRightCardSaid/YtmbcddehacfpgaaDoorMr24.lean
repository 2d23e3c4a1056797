/- Law 7's BlockRight, walked. -/
import Derived.Test.YtmbcddehacfpgaaDoorMr08
import Derived.Test.YtmbcddehacfpgaaDoorMr22
import Derived.Test.YtmbcddehacfpgaaDoorMr23
import Derived.Test.YtmbcddehacfpgaaDoorMr05
import Derived.Test.YtmbcddehacfpgaaDoorMr02
namespace Go.Proofs.YtmbcddehacfpgaaDoor
open Go.RowKit
attribute [local go_sem] canOp readsAs readUpon

theorem fl_one (t : Bk.Tree) : Pb.fl [t] = if Pb.tkind t = 7 then [(Pb.tline t, Pb.tinfo t)] else [] := by
  unfold Pb.fl Pb.fl; rfl
theorem fl_step {ks : List Bk.Tree} {k : Nat} (hk : k < ks.length) : Pb.fl (ks.take (k + 1)) = Pb.fl (ks.take k) ++ if Pb.tkind ks[k] = 7 then [(Pb.tline ks[k], Pb.tinfo ks[k])] else [] := by
  rw [List.take_succ_eq_append_getElem hk, Pb.fl_append, fl_one]
theorem fl_at {ks : List Bk.Tree} {k : Nat} (hk : k < ks.length) (h7 : Pb.tkind ks[k] = 7) : (Pb.fl ks)[(Pb.fl (ks.take k)).length]? = some (Pb.tline ks[k], Pb.tinfo ks[k]) := by
  have e : Pb.fl ks = Pb.fl (ks.take (k + 1)) ++ Pb.fl (ks.drop (k + 1)) := by rw [← Pb.fl_append, List.take_append_drop]
  rw [e, fl_step hk, if_pos h7]
  simp
theorem fl_len (ts : List Bk.Tree) : (Pb.fl ts).length ≤ ts.length := by
  induction ts with
  | nil => exact Nat.le_refl _
  | cons t r ih =>
    unfold Pb.fl
    split
    · simp only [List.length_cons]; omega
    · simp only [List.length_cons]; omega
theorem plc_pf : ∀ {ps : List Bk.Pl} {k a : Nat} {b : List UInt8}, (ps.map Pb.pf)[k]? = some (a, b) → (plcCells ps)[k * 8 + 0]? = some (.int .i64 (a : Int)) ∧ (plcCells ps)[k * 8 + 4]? = some (.string (bs b))
  | [], k, a, b, h => by simp at h
  | p :: r, 0, a, b, h => by
    simp only [List.map_cons, List.getElem?_cons_zero, Option.some.injEq] at h
    unfold Pb.pf at h
    cases h
    exact ⟨rfl, rfl⟩
  | p :: r, k + 1, a, b, h => by
    have h2 := plc_pf (ps := r) (k := k) (a := a) (b := b) (by simpa using h)
    unfold plcCells
    rw [show (k + 1) * 8 + 0 = k * 8 + 0 + 8 from by omega, show (k + 1) * 8 + 4 = k * 8 + 4 + 8 from by omega]
    exact h2
theorem tape_mk (w : World) (xs : List Int) (A : Option Addr) (c : Nat) (h : Row w w.heap.size 1 A xs.length (icells xs)) (hc : xs.length ≤ c) (hl : xs.length ≤ 9223372036854775807) :
    TapeAt (w.alloc (.cells #[.slice A xs.length c, .int .i64 0] 26)) w.heap.size :=
  ⟨A, xs.length, c, 0, xs, heap_alloc_new w _, by omega, hc, hl, h.below (ext_alloc w _)⟩

set_option maxHeartbeats 8000000 in
set_option maxRecDepth 100000 in
theorem bright_any (xs : List Int) (A0 : Option Addr) (c0 : Nat) (lb : List UInt8) (A1 : Option Addr) (c1 : Nat) (w : World)
    (h0 : Row w w.heap.size 1 A0 xs.length (icells xs)) (hc0 : xs.length ≤ c0) (h1 : Row w w.heap.size 1 A1 lb.length (bcells lb)) (hc1 : lb.length ≤ c1)
    (hx : xs.length ≤ 9223372036854775807) (hlb : lb.length ≤ 9223372036854775807) :
    Calls Tryd.prog 3 #[.slice A0 xs.length c0, .slice A1 lb.length c1] w fun e w' => e = .returned (.bool true) ∧ Below w.heap.size w w' := by
  have hT := tape_mk w xs A0 c0 h0 hc0 hx
  have hbA := ext_alloc w (.cells #[.slice A0 xs.length c0, .int .i64 0] 26)
  have hzA : (w.alloc (.cells #[.slice A0 xs.length c0, .int .i64 0] 26)).heap.size = w.heap.size + 1 := by simp
  have hm := fun w' h => markdown_any w' w.heap.size h 50 (by omega) 50 rfl
  replace h1 := Lib.hid h1
  replace hbA := Lib.hid hbA
  replace hm := Lib.hid hm
  replace hT := Lib.hid hT
  clear h0
  go_enter Tryd.func3, Tryd.ntmps3
  go_wp2_with fail
  generalize w.alloc (.cells #[.slice A0 xs.length c0, .int .i64 0] 26) = wa at hT hbA hzA ⊢
  refine (hm.out wa hT.out).mono ?_
  rintro e w1 ⟨vx, lx, rfl, hox, hlx, _, hb1⟩
  obtain ⟨Ax, cx, rfl, hcx⟩ := own_shape hox
  have hb01 := Lib.hid (hbA.out.trans hb1)
  have hrx := Lib.hid (Row.own hox)
  have hz1 : w.heap.size + 1 ≤ w1.heap.size := by have := hb1.size; omega
  clear hb1 hbA hm hT hox
  go_wp2_with fail
  have hbq := ext_alloc w1 (.cells #[.slice Ax lx.length cx, .slice A1 lb.length c1] 23)
  have hnq := heap_alloc_new w1 (.cells #[.slice Ax lx.length cx, .slice A1 lb.length c1] 23)
  have hzq : (w1.alloc (.cells #[.slice Ax lx.length cx, .slice A1 lb.length c1] 23)).heap.size = w1.heap.size + 1 := by simp
  generalize w1.alloc (.cells #[.slice Ax lx.length cx, .slice A1 lb.length c1] 23) = w2 at hbq hnq hzq ⊢
  obtain ⟨q, hq⟩ : ∃ q, w1.heap.size = q := ⟨_, rfl⟩
  have hb02 := Lib.hid (hb01.out.trans (hbq.mono (by omega)))
  have hR2x : Row w2 w2.heap.size 1 Ax lx.length (bcells lx) := hrx.out.ext hbq
  have hR2y : Row w2 w2.heap.size 1 A1 lb.length (bcells lb) := h1.out.ext hb02.out
  rw [hq] at hnq hzq ⊢
  have hsel : ∀ k, k < 2 → ∃ (A : Option Addr) (c : Nat) (l : List UInt8), w2.cell? ⟨q, k, none⟩ = some (.slice A l.length c) ∧ l.length ≤ c ∧ l.length ≤ 9223372036854775807 ∧ Row w2 w2.heap.size 1 A l.length (bcells l) := by
    intro k hk
    rcases k with _ | _ | k
    · exact ⟨Ax, cx, lx, cell_of hnq rfl, hcx, by omega, hR2x⟩
    · exact ⟨A1, c1, lb, cell_of hnq rfl, hc1, hlb, hR2y⟩
    · omega
  replace hsel := Lib.hid hsel
  clear hbq hnq hR2x hR2y hrx h1 hb01
  go_loopw [19] (fun v wr => ∃ k : Nat, v = .int .i64 (k : Int) ∧ k ≤ 2 ∧ Hid (Below w2.heap.size w2 wr)) (fun v _ => 2 - (intOf v).toNat)
  case atStart => exact ⟨0, rfl, by omega, Lib.hid (Below.refl _ _)⟩
  case round =>
    obtain ⟨k, rfl, hk, hb⟩ := hrel
    rcases Nat.lt_or_ge k 2 with hlt | hge
    · obtain ⟨A, c, l, hcl, hlc, hll, hR⟩ := hsel.out k hlt
      have hk0 : (0 : Int) ≤ (k : Int) := by omega
      have hk2 : (k : Int) < 2 := by omega
      have hck := (hb.out.cell (p := ⟨q, k, none⟩) (by show q < w2.heap.size; omega)).trans hcl
      have hRr := Lib.hid (hR.ext hb.out)
      have hbz := hb.out.size
      obtain ⟨hc, hrow, htr, hkd, hrt, hfl⟩ := doc_right l
      have hfew := tree_few l
      clear hcl
      replace hR := Lib.hid hR
      go_wp2_with fail
      refine (pparse l A c wr hRr.out hlc hll).mono ?_
      rintro e w3 ⟨cs, rfl, hT, hb3⟩
      rw [htr] at hT hrt hfew
      unfold Pb.Cn.tree at hT hrt hfew
      rw [hkd] at hT hrt hfew
      have hT' := hT
      unfold TC at hT
      obtain ⟨Ak, kk, css, hce, hkc, hrq, hcs⟩ := hT
      obtain ⟨F, hF⟩ : ∃ F, (Pb.read (Pb.linesOf l)).places = F := ⟨_, rfl⟩
      have hfen := fun w' h => pfences l A c w' h hlc hll
      rw [hF] at hfen hfl
      obtain ⟨ks, hks⟩ : ∃ ks, hc.all = ks := ⟨_, rfl⟩
      obtain ⟨pl, hpl⟩ : ∃ pl, hc.line = pl := ⟨_, rfl⟩
      rw [hks] at hT' hrt hfew hkc hrq hcs hfl hce
      rw [hpl] at hT' hrt hfew hce
      obtain rfl : cs = [.int .i64 0, .int .i64 0, .string ⟨#[]⟩, .string ⟨#[]⟩, .int .i64 (pl : Int), .slice Ak ks.length kk] := hce
      have hks9 : ks.length ≤ 1000000000 := by cases hfew with | mk a b => exact a
      have hrq1 := hrq.1
      obtain ⟨n, hn⟩ : ∃ n, ks.length = n := ⟨_, rfl⟩
      have hbp := ext_alloc w3 (.cells #[.int .i64 0, .int .i64 0, .string ⟨#[]⟩, .string ⟨#[]⟩, .int .i64 (pl : Int), .slice Ak ks.length kk] 31)
      have hnp := heap_alloc_new w3 (.cells #[.int .i64 0, .int .i64 0, .string ⟨#[]⟩, .string ⟨#[]⟩, .int .i64 (pl : Int), .slice Ak ks.length kk] 31)
      have hzp : (w3.alloc (.cells #[.int .i64 0, .int .i64 0, .string ⟨#[]⟩, .string ⟨#[]⟩, .int .i64 (pl : Int), .slice Ak ks.length kk] 31)).heap.size = w3.heap.size + 1 := by simp
      obtain ⟨w4, hw4⟩ : ∃ w4, w3.alloc (.cells #[.int .i64 0, .int .i64 0, .string ⟨#[]⟩, .string ⟨#[]⟩, .int .i64 (pl : Int), .slice Ak ks.length kk] 31) = w4 := ⟨_, rfl⟩
      rw [hw4] at hbp hnp hzp
      have hright : Calls Tryd.prog 8 #[.agg #[.int .i64 0, .int .i64 0, .string ⟨#[]⟩, .string ⟨#[]⟩, .int .i64 (pl : Int), .slice Ak ks.length kk], .int .i64 0, .int .i64 0] w4 fun e w' => e = .returned (.bool true) ∧ Below w4.heap.size w4 w' := treeRight_any _ _ (Nat.le_refl _) hfew 0 0 hrt _ w4 (fun b => b < w3.heap.size) (fun b hb => by omega) (TC_frame (w := w3) (w' := w4) (Q := fun b => wr.heap.size ≤ b ∧ b < w3.heap.size) (Q' := fun b => b < w3.heap.size) (fun b hb => hbp.block b hb.2) (fun b hb => hb.2) hT')
      have hB3 := ext_trans hb.out hb3
      have hB34 := Lib.hid hbp
      have hB4 := Lib.hid (ext_trans hB3 hbp)
      have hz3 := hB3.size
      obtain ⟨g, hg⟩ : ∃ g, w3.heap.size = g := ⟨_, rfl⟩
      rw [hg] at hnp hzp
      rw [hn] at hnp hright hks9 hkc hw4 hrq1 ⊢
      have z0 := cell_of hnp (j := 0) rfl
      have hcs' := Lib.hid hcs
      have hrq' := Lib.hid hrq
      replace hright := Lib.hid hright
      replace hnp := Lib.hid hnp
      replace hfen := Lib.hid hfen
      replace hfl := Lib.hid hfl
      replace hw4 := Lib.hid hw4
      replace hn := Lib.hid hn
      clear hT' hrt hfew hcs hrq hbp hb3 hB3 hrow htr hkd
      go_wp2_with fail
      rw [hw4.out]
      refine hright.out.mono ?_
      rintro e w5 ⟨rfl, hb5⟩
      have hB5 := Lib.hid (ext_trans hB4.out hb5)
      have hB35 := Lib.hid (ext_trans hB34.out hb5)
      have hn5 := (hb5.block g (by omega)).trans hnp.out
      have hz5 := hb5.size
      have y0 := cell_of hn5 (j := 0) rfl
      clear hright hnp hb5 z0
      replace hn5 := Lib.hid hn5
      go_wp2_with fail
      refine (hfen.out w5 (hR.out.ext hB5.out)).mono ?_
      rintro e w6 ⟨fv, rfl, hof, hb6⟩
      obtain ⟨Af, fc, rfl, hfc⟩ := own_shape hof
      have hB6 := Lib.hid (ext_trans hB5.out hb6)
      have hB36 := Lib.hid (ext_trans hB35.out hb6)
      have hz6 := hb6.size
      have hn6 := (hb6.block g (by omega)).trans hn5.out
      have y0 := cell_of hn6 (j := 0) rfl
      have y5 := cell_of hn6 (j := 5) rfl
      obtain ⟨m, hm⟩ : ∃ m, F.length = m := ⟨_, rfl⟩
      rw [hm] at hof hfc ⊢
      replace hof := Lib.hid hof
      have hTz := hB6.out.size
      have hkids : ∀ i (hi : i < ks.length), ∃ b o kd lv tx inf ln A' n' k', Ak = some ⟨b, o, none⟩ ∧ ks[i] = Bk.Tree.mk kd lv tx inf ln n' ∧ b < w6.heap.size ∧ (w6.cell? ⟨b, o + i * 6, none⟩ = some (.int .i64 (kd : Int)) ∧ w6.cell? ⟨b, o + i * 6 + 1, none⟩ = some (.int .i64 (lv : Int)) ∧ w6.cell? ⟨b, o + i * 6 + 2, none⟩ = some (.string (bs tx)) ∧ w6.cell? ⟨b, o + i * 6 + 3, none⟩ = some (.string (bs inf)) ∧ w6.cell? ⟨b, o + i * 6 + 4, none⟩ = some (.int .i64 (ln : Int)) ∧ w6.cell? ⟨b, o + i * 6 + 5, none⟩ = some (.slice A' n'.length k')) := by
        intro i hi
        obtain ⟨kc, t1, a1⟩ := TCs_at hcs'.out hi
        obtain ⟨b1, o1, hA1, hb1, r1⟩ := hrq'.out.six (by omega)
        obtain ⟨T, hT⟩ : ∃ T, ks[i] = T := ⟨_, rfl⟩
        rw [hT] at t1
        obtain ⟨kd, lv, tx, inf, ln, n'⟩ := T
        unfold TC at t1
        obtain ⟨A', k', css', rfl, _⟩ := t1
        have hl1 : b1 < w3.heap.size := hb1.2
        have hall : ∀ j u, [Value.int .i64 (kd : Int), .int .i64 (lv : Int), .string (bs tx), .string (bs inf), .int .i64 (ln : Int), .slice A' n'.length k'][j]? = some u → w6.cell? ⟨b1, o1 + i * 6 + j, none⟩ = some u := fun j u hj => by
          have hj6 : j < 6 := (List.getElem?_eq_some_iff.1 hj).1
          have e1 := r1 _ _ ((a1 j hj6).trans hj)
          rw [show o1 + i * 6 + j = o1 + (i * 6 + j) from by omega]
          exact (hB36.out.cell (p := ⟨b1, o1 + (i * 6 + j), none⟩) hl1).trans e1
        exact ⟨b1, o1, kd, lv, tx, inf, ln, A', n', k', hA1, hT, by omega, hall 0 _ rfl, hall 1 _ rfl, hall 2 _ rfl, hall 3 _ rfl, hall 4 _ rfl, hall 5 _ rfl⟩
      have hcount : ∀ i (hi : i < ks.length), (Pb.fl (ks.take (i + 1))).length = (Pb.fl (ks.take i)).length + (if Pb.tkind ks[i] = 7 then 1 else 0) := fun i hi => by
        rw [fl_step hi, List.length_append]
        split <;> rfl
      have hmeet : ∀ i (hi : i < ks.length), Pb.tkind ks[i] = 7 → (plcCells F)[(Pb.fl (ks.take i)).length * 8 + 0]? = some (.int .i64 (Pb.tline ks[i] : Int)) ∧ (plcCells F)[(Pb.fl (ks.take i)).length * 8 + 4]? = some (.string (bs (Pb.tinfo ks[i]))) ∧ (Pb.fl (ks.take i)).length < m := fun i hi h7 => by
        have h1 := fl_at hi h7
        rw [hfl.out] at h1
        have h2 := plc_pf h1
        refine ⟨h2.1, h2.2, ?_⟩
        have := (List.getElem?_eq_some_iff.1 h1).1
        rw [List.length_map, hm] at this
        exact this
      have hend : (Pb.fl (ks.take n)).length = m := by
        rw [← hn.out, List.take_length, hfl.out, List.length_map, hm]
      obtain ⟨N, hN⟩ : ∃ N : Nat → Nat, N = fun i => (Pb.fl (ks.take i)).length := ⟨_, rfl⟩
      have hN0 : N 0 = 0 := by rw [hN]; rfl
      have hNle : ∀ i, N i ≤ i := fun i => by
        rw [hN]
        have := fl_len (ks.take i)
        rw [List.length_take] at this
        show (Pb.fl (ks.take i)).length ≤ i
        omega
      have hNn : N n = m := by rw [hN]; exact hend
      have hcount' : ∀ i (hi : i < ks.length), N (i + 1) = N i + (if Pb.tkind ks[i] = 7 then 1 else 0) := fun i hi => by rw [hN]; exact hcount i hi
      have hmeet' : ∀ i (hi : i < ks.length), Pb.tkind ks[i] = 7 → (plcCells F)[N i * 8 + 0]? = some (.int .i64 (Pb.tline ks[i] : Int)) ∧ (plcCells F)[N i * 8 + 4]? = some (.string (bs (Pb.tinfo ks[i]))) ∧ N i < m := fun i hi h7 => by rw [hN]; exact hmeet i hi h7
      replace hkids := Lib.hid hkids
      replace hcount' := Lib.hid hcount'
      replace hmeet' := Lib.hid hmeet'
      clear hcount hmeet hend hN hfl hrq' hcs' hn6 hn5 hb6 hfen hw4
      go_wp2_with fail
      go_loopw [9, 38] (fun nv iv wy => ∃ i : Nat, iv = .int .i64 (i : Int) ∧ i ≤ n ∧ nv = .int .i64 (N i : Int) ∧ Hid (Below w6.heap.size w6 wy)) (fun _ iv _ => n - (intOf iv).toNat)
      case atStart => exact ⟨0, rfl, by omega, by rw [hN0]; rfl, Lib.hid (Below.refl _ _)⟩
      case round =>
        obtain ⟨i, rfl, hi, rfl, hby⟩ := hrel
        have hyz := hby.out.size
        rcases Nat.lt_or_eq_of_le hi with hil | rfl
        · have hik : i < ks.length := by rw [hn.out]; exact hil
          obtain ⟨b1, o1, kd, lv, tx, inf, ln, A', n', k', rfl, hT, hl1, x0, x1, x2, x3, x4, x5⟩ := hkids.out i hik
          have hc1 := hcount'.out i hik
          have hc2 := hmeet'.out i hik
          rw [hT] at hc1 hc2
          have X := fun j => hby.out.cell (p := ⟨b1, o1 + i * 6 + j, none⟩) hl1
          have X0 := hby.out.cell (p := ⟨b1, o1 + i * 6, none⟩) hl1
          rw [← X0] at x0
          rw [← X] at x1 x2 x3 x4 x5
          have hi0 : (0 : Int) ≤ (i : Int) := by omega
          have hi1 : (i : Int) < (n : Int) := by omega
          by_cases h7 : kd = 7
          · have x0' : wr.cell? ⟨b1, o1 + i * 6, none⟩ = some (.int .i64 7) := by rw [x0, h7]; rfl
            obtain ⟨p0, p4, hlt⟩ := hc2 h7
            rw [show Pb.tkind (.mk kd lv tx inf ln n') = kd from rfl, if_pos h7] at hc1
            rcases hof.out.2 with ⟨_, h0⟩ | ⟨g1, q1, u1, hv1, _, hg1, _⟩
            · omega
            cases hv1
            have hl7 : g1 < w6.heap.size := (Array.getElem?_eq_some_iff.1 hg1).1
            have hbk := ext_alloc wr (.cells #[.int .i64 7, .int .i64 (lv : Int), .string (bs tx), .string (bs inf), .int .i64 (ln : Int), .slice A' n'.length k'] 31)
            have hnk := heap_alloc_new wr (.cells #[.int .i64 7, .int .i64 (lv : Int), .string (bs tx), .string (bs inf), .int .i64 (ln : Int), .slice A' n'.length k'] 31)
            have hB7 := Lib.hid (ext_trans hby.out hbk)
            have P0 := (hB7.out.cell (p := ⟨g1, N i * 8 + 0, none⟩) hl7).trans (own_cell hof.out p0)
            have P4 := (hB7.out.cell (p := ⟨g1, N i * 8 + 4, none⟩) hl7).trans (own_cell hof.out p4)
            rw [Nat.add_zero] at P0
            rw [show Pb.tline (.mk kd lv tx inf ln n') = ln from rfl] at P0
            rw [show Pb.tinfo (.mk kd lv tx inf ln n') = inf from rfl] at P4
            have k3 := cell_of hnk (j := 3) rfl
            have k4 := cell_of hnk (j := 4) rfl
            have k0 := cell_of hnk (j := 0) rfl
            have e2 := bs_eq (a := inf) (b := inf) rfl
            have hN1 : (N i : Int) < (m : Int) := by omega
            have hN2 : (0 : Int) ≤ (N i : Int) := by omega
            have hN3 : (N i : Int) ≤ 1000000000 := by have := hNle i; omega
            clear x0 hc2 p0 p4 hg1 hT X0 X h7 hbk
            replace hnk := Lib.hid hnk
            go_wp2_with fail
            go_quiet (fail)
            go_wp2_with fail
            go_roundw
            case rel => exact ⟨i + 1, by go_num, by omega, by rw [hc1]; go_num, Lib.hid (below_drewN hB7.out _)⟩
            case measure => simp [intOf]; omega
          · have x7 : ((kd : Int) == 7) = false := by rw [beq_eq_false_iff_ne]; omega
            rw [show Pb.tkind (.mk kd lv tx inf ln n') = kd from rfl, if_neg h7, Nat.add_zero] at hc1
            have hbk := Lib.hid (ext_trans hby.out (ext_alloc wr (.cells #[.int .i64 (kd : Int), .int .i64 (lv : Int), .string (bs tx), .string (bs inf), .int .i64 (ln : Int), .slice A' n'.length k'] 31)))
            clear hc2 hT X0 X h7
            go_wp2_with fail
            go_roundw
            case rel => exact ⟨i + 1, by go_num, by omega, by rw [hc1]; rfl, hbk⟩
            case measure => simp [intOf]; omega
        · go_wp2_with fail
          go_roundw
          case rel => exact ⟨k + 1, by go_num, by omega, Lib.hid (hB6.out.trans (hby.out.mono (by omega)))⟩
          case measure => simp [intOf]; omega
    · have hge' : (2 : Int) ≤ (k : Int) := by omega
      go_wp2_with fail
      refine (bknown_any wr).mono ?_
      rintro e w3 ⟨rfl, hb3⟩
      go_wp2_with fail
      go_ret
      exact ⟨rfl, hb02.out.trans ((ext_trans hb.out hb3).mono (by omega))⟩

theorem right_said (xs : List Int) (A0 : Option Addr) (c0 : Nat) (lb : List UInt8) (A1 : Option Addr) (c1 : Nat) (w : World)
    (h0 : Row w w.heap.size 1 A0 xs.length (icells xs)) (hc0 : xs.length ≤ c0) (hm0 : c0 ≤ maxLen) (h1 : Row w w.heap.size 1 A1 lb.length (bcells lb)) (hc1 : lb.length ≤ c1) (hm1 : c1 ≤ maxLen) :
    Calls Tryd.prog 3 #[.slice A0 xs.length c0, .slice A1 lb.length c1] w fun e w' => e = .returned (.bool true) ∧ Below w.heap.size w w' := by
  unfold maxLen at hm0 hm1
  exact bright_any xs A0 c0 lb A1 c1 w h0 hc0 h1 hc1 (by omega) (by omega)
end Go.Proofs.YtmbcddehacfpgaaDoor
