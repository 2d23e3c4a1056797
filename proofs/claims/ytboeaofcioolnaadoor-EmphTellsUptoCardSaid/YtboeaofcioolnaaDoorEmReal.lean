/- Package emph: Match: the pairs that runs make: the document's own. -/
import Derived.Test.YtboeaofcioolnaaDoorEmPB
import Derived.Test.YtboeaofcioolnaaDoorEmMatches
namespace Go.Proofs.YtboeaofcioolnaaDoor
open Go.RowKit

set_option maxHeartbeats 8000000 in
set_option maxRecDepth 100000 in
theorem pmatch_any (l : List Em.R) (A : Option Addr) (c : Nat) (w : World) (h : Row w w.heap.size 4 A l.length (acells l)) (hl : l.length ≤ 1000000) :
    Calls Tryd.prog 13 #[.slice A l.length c] w fun e w' => (∃ v, e = .returned v ∧ w'.ownsRow w.heap.size 41 3 v (Em.pairs l).length (pcells (Em.pairs l))) ∧ Below w.heap.size w w' := by
  have hR := Lib.hid h
  clear h
  go_enter Tryd.func13, Tryd.ntmps13
  go_upto_region 1 with fail
  refine pm_start (l := l) (A := A) (c := c) (fun _ _ d _ _ h => by cases d <;> exact h) ?_ hR.out hl
  intro b v v12 w1 hM1 hB1
  have hlh : (Em.hold l).length = l.length := by simp [Em.hold]
  have hH := Lib.hid (Em.hold_held l)
  obtain ⟨fin, hfin⟩ : ∃ fin, fin = Em.outer (Em.hold l) l.length 0 ((Em.hold l).map (fun r => Em.held r.n), []) := ⟨_, rfl⟩
  have hres : Hid (fin.2 = Em.pairs l) := Lib.hid (by rw [← Em.pairs_hold l, hfin]; unfold Em.pairs; rw [hlh])
  have hS0 := Em.sim_start (Em.hold l)
  rw [hlh] at hS0
  obtain ⟨vr, vl, vo, vn, vp⟩ := v
  obtain ⟨Ar, cr, hvr, hcr⟩ := own_shape hM1.rowr
  obtain ⟨_, hbw1, hfz1, m0, m1, m2, m3, m4⟩ := hM1.blk
  simp only [hlh] at hvr m0 hcr
  subst hvr
  replace hM1 := Lib.hid hM1
  replace hB1 := Lib.hid hB1
  replace hS0 := Lib.hid hS0
  replace hfin := Lib.hid hfin
  clear m1 m2 m3 m4 hfz1
  go_wp2_with fail
  go_loopw [16] (fun u wr => ∃ (k : Nat) (st : Em.St) (v : Vs) (L O N : List Nat), k ≤ l.length ∧ u = .int .i64 k ∧ Hid (v.r = .slice Ar l.length cr) ∧ Hid (PM w.heap.size b none v (Em.hold l) L O N st.2 wr) ∧ Hid (Em.SimB (Em.hold l) k st L O N) ∧
      Hid (Em.outer (Em.hold l) (l.length - k) k st = fin) ∧ Hid (Below w.heap.size w wr)) (fun u _ => l.length - (intOf u).toNat)
  case atStart => exact ⟨0, _, _, _, _, _, Nat.zero_le _, rfl, Lib.hid rfl, hM1, hS0, Lib.hid hfin.out.symm, hB1⟩
  case round =>
    obtain ⟨k, st, v, L, O, N, hk, rfl, hvr, hM, hS, hfi, hB⟩ := hrel
    clear hM1 hB1 hS0 hfin m0 hbw1
    by_cases hkl : k < l.length
    · have hfi2 : Hid (Em.outer (Em.hold l) (l.length - (k + 1)) (k + 1) (Em.inner (Em.hold l) k st) = fin) := Lib.hid (by
        have h1 := hfi.out
        rw [show l.length - k = (l.length - (k + 1)) + 1 by omega] at h1
        exact h1)
      clear hfi
      have hkh : k < (Em.hold l).length := by rw [hlh]; exact hkl
      obtain ⟨r, hr⟩ : ∃ r, r = (Em.hold l)[k] := ⟨_, rfl⟩
      have hgr : Hid (Em.get (Em.hold l) k = r) := Lib.hid (by rw [Em.get_at hkh, hr])
      have hrn := hH.out r (by rw [hr]; exact List.getElem_mem hkh)
      obtain ⟨n, hn⟩ : ∃ n : Nat, n = Em.held r.n := ⟨_, rfl⟩
      have hnr : r.n = (n : Int) := by rw [hn]; exact (Em.held_in hrn.1 hrn.2).symm
      have hS2 := Em.sim_in hS.out hkh
      rw [hgr.out, ← hn] at hS2
      have hMr := hM.out
      obtain ⟨vr, vl, vo, vn, vp⟩ := v
      have hvr' := hvr.out
      obtain ⟨gl, cl, hvl, hcl, hBl, hgl⟩ := own_some hMr.rowl (by rw [hS.out.1.len, hlh]; omega)
      have hLl : L.length = l.length := by rw [hS.out.1.len, hlh]
      simp only at hvr' hvl
      subst hvr' hvl
      obtain ⟨gr, rfl⟩ : ∃ g, Ar = some ⟨g, 0, none⟩ := by
        obtain ⟨g, c', hv, _⟩ := own_some hMr.rowr (by rw [hlh]; omega)
        injection hv with h1 _ _
        exact ⟨g, h1⟩
      have hrr := hMr.rowr
      simp only [hlh] at hrr
      obtain ⟨x0, x1, x2, x3⟩ := own_cell4 hrr hkh
      rw [← hr] at x0 x1 x2 x3
      have hgrw := (hrr.lt _ rfl).2
      replace hr := Lib.hid hr
      replace hn := Lib.hid hn
      replace hS2 := Lib.hid hS2
      have hBz := hB.out.size
      clear hrr hM hS hvr
      go_upto_region 5 with fail
      generalize hw2 : World.alloc wr _ = w2
      have hM2 : PM w.heap.size b (some (.blk wr.heap.size #[.int .u8 (r.ch.toNat : Int), .int .i64 (n : Int), .bool r.o, .bool r.c] 29)) ⟨.slice (some ⟨gr, 0, none⟩) l.length cr, .slice (some ⟨gl, 0, none⟩) L.length cl, vo, vn, vp⟩ (Em.hold l) L O N st.2 w2 := by rw [← hw2]; exact hMr.more _ _ hBz
      have hB2 : Below w.heap.size w w2 := by rw [← hw2]; exact hB.out.alloc hBz _
      clear hw2 x0 x1 x2 x3 hMr hB hgl
      have hloc2 := hM2.extra
      obtain ⟨y0, y1, y2, y3⟩ := four hloc2
      obtain ⟨hB2', hbw2, hfz2, m0, m1, m2, m3, m4⟩ := hM2.blk
      have hrl2 := hM2.rowl
      simp only [hLl] at m0 m1 hrl2
      have lf2 := fun j => hrl2.frozenAt j
      have lv2 := own_int hrl2 (k := k) (by omega)
      have hgl2 := (hrl2.lt _ rfl).2
      have hM3' := Lib.hid (hM2.setL (g := gl) (c := cl) rfl k n)
      replace hM2 := Lib.hid hM2
      replace hB2 := Lib.hid hB2
      replace hrl2 := Lib.hid hrl2
      clear hloc2 m0 m2 m3 m4 y0 y2 y3
      go_upto_region 6 with fail
      generalize hw3 : World.setCell w2 _ _ = w3
      have hM3 : PM w.heap.size b (some (.blk wr.heap.size #[.int .u8 (r.ch.toNat : Int), .int .i64 (n : Int), .bool r.o, .bool r.c] 29)) ⟨.slice (some ⟨gr, 0, none⟩) l.length cr, .slice (some ⟨gl, 0, none⟩) L.length cl, vo, vn, vp⟩ (Em.hold l) (L.set k n) O N st.2 w3 := by rw [← hw3]; exact hM3'.out
      have hB3 : Below w.heap.size w w3 := by rw [← hw3]; exact hB2.out.setCell (p := ⟨gl, k, none⟩) hBl _
      clear hw3 hM3' hM2 hB2 hrl2 lf2 lv2 y1 m1 hfz2 hbw2
      obtain ⟨y0, y1, y2, y3⟩ := four hM3.extra
      cases hcc : r.c with
      | false =>
        rw [hcc] at y3
        have hmid : Hid (∃ v' : Vs, v'.r = .slice (some ⟨gr, 0, none⟩) l.length cr ∧ ∃ L' O' N', PM w.heap.size b (some (.blk wr.heap.size #[.int .u8 (r.ch.toNat : Int), .int .i64 (n : Int), .bool r.o, .bool r.c] 29)) v' (Em.hold l) L' O' N' (Em.inner (Em.hold l) k st).2 w3 ∧ Em.SimI (Em.hold l) k (Em.inner (Em.hold l) k st) L' O' N' ∧ Below w.heap.size w w3) := Lib.hid (by
          rw [Em.inner_stop (by rw [hgr.out, hcc]; simp)]
          exact ⟨_, rfl, _, _, _, hM3, hS2.out, hB3⟩)
        clear hM3 hB3 hS2 y0 y1 y2
        go_upto_region 8 with fail
        obtain ⟨v3, hr3, L3, O3, N3, hM3, hS3, hB3⟩ := hmid.out
        clear hmid
        have hloc3 := hM3.extra
        obtain ⟨y0, y1, y2, y3⟩ := four hloc3
        obtain ⟨r3, l3, o3, n3, p3⟩ := v3
        obtain ⟨gl3, cl3, hvl3, hcl3, hBl3, hgl3⟩ := own_some hM3.rowl (by rw [hS3.1.len, hlh]; omega)
        obtain ⟨Ao3, co3, hvo3, hco3⟩ := own_shape hM3.rowo
        simp only at hvl3 hvo3 hr3
        subst hvl3 hvo3 hr3
        have hLl3 : L3.length = l.length := by rw [hS3.1.len, hlh]
        obtain ⟨hB3', hbw3, hfz3, m0, m1, m2, m3, m4⟩ := hM3.blk
        have hrl3 := hM3.rowl
        simp only [hLl3] at m0 m1 m2 hrl3
        have lv3 := own_int hrl3 (k := k) (by omega)
        obtain ⟨z, hz⟩ : ∃ z, z = L3[k] := ⟨_, rfl⟩
        rw [← hz] at lv3
        have hzl : Em.lf L3 k = z := by rw [Em.lf_at (by omega), hz]
        have hnx := Em.sim_next hS3 (by rw [hlh]; exact hkl)
        rw [hzl] at hnx
        have hOf := hS3.1.open_few
        have hBw3 := hB3.size
        replace hM3 := Lib.hid hM3
        replace hB3 := Lib.hid hB3
        replace hnx := Lib.hid hnx
        clear hloc3 hrl3 hS3 hz hzl m0 m3 m4 y0 y1 y3
        cases hoo : r.o with
        | false =>
          rw [hoo] at y2
          have hnx2 : Hid (Em.SimB (Em.hold l) (k + 1) (Em.inner (Em.hold l) k st) L3 O3 N3) := Lib.hid (by have := hnx.out; rwa [hgr.out, hoo, if_neg (by simp)] at this)
          clear hnx hfz3 m1 m2 lv3
          go_wp2_with fail
          go_roundw
          case rel => exact ⟨k + 1, _, ⟨_, _, _, _, _⟩, L3, O3, N3, hkl, by go_num, Lib.hid rfl, Lib.hid hM3.out.less, hnx2, hfi2, hB3⟩
          case measure => simp [intOf]; omega
        | true =>
          rw [hoo] at y2
          rcases Nat.eq_zero_or_pos z with hz0 | hz0
          · subst hz0
            have hnx2 : Hid (Em.SimB (Em.hold l) (k + 1) (Em.inner (Em.hold l) k st) L3 O3 N3) := Lib.hid (by have := hnx.out; rwa [if_neg (by omega)] at this)
            clear hnx hfz3 m2
            go_wp2_with fail
            go_roundw
            case rel => exact ⟨k + 1, _, ⟨_, _, _, _, _⟩, L3, O3, N3, hkl, by go_num, Lib.hid rfl, Lib.hid hM3.out.less, hnx2, hfi2, hB3⟩
            case measure => simp [intOf]; omega
          · have t0 : decide ((0 : Int) < (z : Int)) = true := decide_eq_true (by omega)
            have t1 : decide (0 < z) = true := decide_eq_true hz0
            have hnx2 : Hid (Em.SimB (Em.hold l) (k + 1) (Em.inner (Em.hold l) k st) L3 (O3 ++ [k]) N3) := Lib.hid (by have := hnx.out; rwa [hgr.out, hoo, if_pos ⟨rfl, hz0⟩] at this)
            clear hnx hz0
            go_upto_region 10 with (at_builtin; refine wpList_app_two rfl (.tmp 42) (.tmp 44) rfl pintEI rfl hM3.out.rowo rfl (by simp) rfl (by simp; rfl) (by omega) (by omega) (by omega) ?_; intro vo7 w7 ho7 hg7 hb7 hat7; obtain ⟨A7, c7, rfl, hc7⟩ := own_shape ho7; obtain ⟨hfz7, m27⟩ := hM3.out.atO hg7.out; have hbw7 : b < w7.heap.size := Nat.lt_of_lt_of_le hbw3 hb7.size)
            generalize hw8 : World.setCell w7 _ _ = w8
            have hM8 := Lib.hid (show PM w.heap.size b none ⟨_, _, .slice A7 (O3.length + 1) c7, n3, p3⟩ (Em.hold l) L3 (O3 ++ [k]) N3 (Em.inner (Em.hold l) k st).2 w8 from by
              rw [← hw8]
              exact (hM3.out.newO hg7.out (by simpa [lcells] using ho7) hat7.out).less)
            have hB8 := Lib.hid (show Below w.heap.size w w8 from by rw [← hw8]; exact (hB3.out.trans hb7).setCell (p := ⟨b, 2, none⟩) hB3' _)
            clear hw8 hM3 hB3 ho7 hg7 hb7 hat7 hfz7 m27 hbw7 hfz3 m1 m2 lv3 t0 t1
            go_wp2_with fail
            go_roundw
            case rel => exact ⟨k + 1, _, ⟨_, _, _, _, _⟩, L3, O3 ++ [k], N3, hkl, by go_num, Lib.hid rfl, hM8, hnx2, hfi2, hB8⟩
            case measure => simp [intOf]; omega
      | true =>
        rw [hcc] at y3
        have q := pclose_any k st hM3 hS2.out hkh (by rw [hlh]; exact hl) hH.out (by rw [hgr.out, hcc])
        replace hM3 := Lib.hid hM3
        replace hB3 := Lib.hid hB3
        clear y0 y1 y2
        go_wp2_with fail
        refine q.mono ?_
        rintro e w4 ⟨rfl, ⟨v', hv', L', O', N', hM4, hS4⟩, hB4⟩
        have hmid : Hid (∃ v' : Vs, v'.r = .slice (some ⟨gr, 0, none⟩) l.length cr ∧ ∃ L' O' N', PM w.heap.size b (some (.blk wr.heap.size #[.int .u8 (r.ch.toNat : Int), .int .i64 (n : Int), .bool r.o, .bool r.c] 29)) v' (Em.hold l) L' O' N' (Em.inner (Em.hold l) k st).2 w4 ∧ Em.SimI (Em.hold l) k (Em.inner (Em.hold l) k st) L' O' N' ∧ Below w.heap.size w w4) :=
          Lib.hid ⟨v', hv', L', O', N', hM4, hS4, hB3.out.trans hB4⟩
        clear q hM3 hB3 hS2 hM4 hS4 hB4 hv' y3
        go_upto_region 8 with fail
        obtain ⟨v3, hr3, L3, O3, N3, hM3, hS3, hB3⟩ := hmid.out
        clear hmid
        have hloc3 := hM3.extra
        obtain ⟨y0, y1, y2, y3⟩ := four hloc3
        obtain ⟨r3, l3, o3, n3, p3⟩ := v3
        obtain ⟨gl3, cl3, hvl3, hcl3, hBl3, hgl3⟩ := own_some hM3.rowl (by rw [hS3.1.len, hlh]; omega)
        obtain ⟨Ao3, co3, hvo3, hco3⟩ := own_shape hM3.rowo
        simp only at hvl3 hvo3 hr3
        subst hvl3 hvo3 hr3
        have hLl3 : L3.length = l.length := by rw [hS3.1.len, hlh]
        obtain ⟨hB3', hbw3, hfz3, m0, m1, m2, m3, m4⟩ := hM3.blk
        have hrl3 := hM3.rowl
        simp only [hLl3] at m0 m1 m2 hrl3
        have lv3 := own_int hrl3 (k := k) (by omega)
        obtain ⟨z, hz⟩ : ∃ z, z = L3[k] := ⟨_, rfl⟩
        rw [← hz] at lv3
        have hzl : Em.lf L3 k = z := by rw [Em.lf_at (by omega), hz]
        have hnx := Em.sim_next hS3 (by rw [hlh]; exact hkl)
        rw [hzl] at hnx
        have hOf := hS3.1.open_few
        have hBw3 := hB3.size
        replace hM3 := Lib.hid hM3
        replace hB3 := Lib.hid hB3
        replace hnx := Lib.hid hnx
        clear hloc3 hrl3 hS3 hz hzl m0 m3 m4 y0 y1 y3
        cases hoo : r.o with
        | false =>
          rw [hoo] at y2
          have hnx2 : Hid (Em.SimB (Em.hold l) (k + 1) (Em.inner (Em.hold l) k st) L3 O3 N3) := Lib.hid (by have := hnx.out; rwa [hgr.out, hoo, if_neg (by simp)] at this)
          clear hnx hfz3 m1 m2 lv3
          go_wp2_with fail
          go_roundw
          case rel => exact ⟨k + 1, _, ⟨_, _, _, _, _⟩, L3, O3, N3, hkl, by go_num, Lib.hid rfl, Lib.hid hM3.out.less, hnx2, hfi2, hB3⟩
          case measure => simp [intOf]; omega
        | true =>
          rw [hoo] at y2
          rcases Nat.eq_zero_or_pos z with hz0 | hz0
          · subst hz0
            have hnx2 : Hid (Em.SimB (Em.hold l) (k + 1) (Em.inner (Em.hold l) k st) L3 O3 N3) := Lib.hid (by have := hnx.out; rwa [if_neg (by omega)] at this)
            clear hnx hfz3 m2
            go_wp2_with fail
            go_roundw
            case rel => exact ⟨k + 1, _, ⟨_, _, _, _, _⟩, L3, O3, N3, hkl, by go_num, Lib.hid rfl, Lib.hid hM3.out.less, hnx2, hfi2, hB3⟩
            case measure => simp [intOf]; omega
          · have t0 : decide ((0 : Int) < (z : Int)) = true := decide_eq_true (by omega)
            have t1 : decide (0 < z) = true := decide_eq_true hz0
            have hnx2 : Hid (Em.SimB (Em.hold l) (k + 1) (Em.inner (Em.hold l) k st) L3 (O3 ++ [k]) N3) := Lib.hid (by have := hnx.out; rwa [hgr.out, hoo, if_pos ⟨rfl, hz0⟩] at this)
            clear hnx hz0
            go_upto_region 10 with (at_builtin; refine wpList_app_two rfl (.tmp 42) (.tmp 44) rfl pintEI rfl hM3.out.rowo rfl (by simp) rfl (by simp; rfl) (by omega) (by omega) (by omega) ?_; intro vo7 w7 ho7 hg7 hb7 hat7; obtain ⟨A7, c7, rfl, hc7⟩ := own_shape ho7; obtain ⟨hfz7, m27⟩ := hM3.out.atO hg7.out; have hbw7 : b < w7.heap.size := Nat.lt_of_lt_of_le hbw3 hb7.size)
            generalize hw8 : World.setCell w7 _ _ = w8
            have hM8 := Lib.hid (show PM w.heap.size b none ⟨_, _, .slice A7 (O3.length + 1) c7, n3, p3⟩ (Em.hold l) L3 (O3 ++ [k]) N3 (Em.inner (Em.hold l) k st).2 w8 from by
              rw [← hw8]
              exact (hM3.out.newO hg7.out (by simpa [lcells] using ho7) hat7.out).less)
            have hB8 := Lib.hid (show Below w.heap.size w w8 from by rw [← hw8]; exact (hB3.out.trans hb7).setCell (p := ⟨b, 2, none⟩) hB3' _)
            clear hw8 hM3 hB3 ho7 hg7 hb7 hat7 hfz7 m27 hbw7 hfz3 m1 m2 lv3 t0 t1
            go_wp2_with fail
            go_roundw
            case rel => exact ⟨k + 1, _, ⟨_, _, _, _, _⟩, L3, O3 ++ [k], N3, hkl, by go_num, Lib.hid rfl, hM8, hnx2, hfi2, hB8⟩
            case measure => simp [intOf]; omega
    · have hke : k = l.length := by omega
      subst hke
      have ho : st.2 = Em.pairs l := by
        have h1 := hfi.out
        rw [Nat.sub_self] at h1
        rw [← hres.out, ← h1]; rfl
      have hMr := hM.out
      rw [ho] at hMr
      obtain ⟨_, hbw, hfz, m0, m1, m2, m3, m4⟩ := hMr.blk
      have hrp := Lib.hid hMr.rowp
      obtain ⟨AP, cp, hvp, hcp⟩ := own_shape hMr.rowp
      rw [hvp] at m4 hrp
      clear hMr m0 m1 m2 m3 hvr hM hS ho
      go_wp2_with fail
      go_ret
      exact ⟨⟨_, rfl, hrp.out⟩, hB.out⟩

theorem pmatch : PMatch := fun l A c w h hl => pmatch_any l A c w h hl
end Go.Proofs.YtboeaofcioolnaaDoor
