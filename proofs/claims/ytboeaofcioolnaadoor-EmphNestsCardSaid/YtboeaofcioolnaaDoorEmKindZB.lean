/- The document's own judging of a run, at the beginning, _. -/
import Derived.Test.YtboeaofcioolnaaDoorEmJudge
import Derived.Test.YtboeaofcioolnaaDoorEsRef
import Derived.Test.YtboeaofcioolnaaDoorFnRun
import Derived.Test.YtboeaofcioolnaaDoorEmKindR
import Derived.Test.YtboeaofcioolnaaDoorBlk
import Derived.Deep.DeepCutAuto
namespace Go.Proofs.YtboeaofcioolnaaDoor
open Go.RowKit


set_option maxHeartbeats 8000000 in
set_option maxRecDepth 100000 in
theorem rkind_on_z95 (l : List UInt8) (k : Nat) (hk : k < l.length) (hs : l.length ≤ 1000000000000) (hsg : ((l[k].toNat : Int) == 42) = false ∧ ((l[k].toNat : Int) == 95) = true ∧ l[k] = 95) (hk0 : (k : Int) ≤ 0) (w : World) :
    Calls Tryd.prog 16 #[.string (bs l), .int .i64 (k : Int)] w fun e w' => e = .returned (kindV (some (Em.judge l[k] (Fn.run l[k] (l.drop k)) (Em.ahead l k) (Em.behind l (k + Fn.run l[k] (l.drop k))), k + Fn.run l[k] (l.drop k)))) ∧ Below w.heap.size w w' := by
  have hsz := bs_size l
  have hix := run_byte hk
  have hup := run_upto (S := l) (i := k) (by omega)
  have hne1 : ((l[k].toNat : Int) != 42) = !((l[k].toNat : Int) == 42) := rfl
  have hne2 : ((l[k].toNat : Int) != 95) = !((l[k].toNat : Int) == 95) := rfl
  have hin := Em.runs_in hk l[k]
  have q1 := rrun_any l k l[k]
  replace q1 := fun w => q1 w (by omega) (by omega)
  have q2 := fun w => rone_any l (k + Fn.run l[k] (l.drop k)) (w := w)
  have hbi : k + Fn.run l[k] (l.drop k) < l.length → Em.behind l (k + Fn.run l[k] (l.drop k)) = (Lib.decodeL (l.drop (k + Fn.run l[k] (l.drop k)))).1 := Em.behind_in
  have hbo : ¬ k + Fn.run l[k] (l.drop k) < l.length → Em.behind l (k + Fn.run l[k] (l.drop k)) = 32 := Em.behind_out
  obtain ⟨a, ha⟩ : ∃ a, a = Em.behind l (k + Fn.run l[k] (l.drop k)) := ⟨_, rfl⟩
  obtain ⟨b, hb⟩ : ∃ b, b = Em.ahead l k := ⟨_, rfl⟩
  rw [← ha] at hbi hbo
  rw [← ha, ← hb]
  clear ha
  have hbd : Hid ((Ru.runes (l.take k)).getLastD 32 = b) := Lib.hid hb.symm
  clear hb
  obtain ⟨n, hn⟩ : ∃ n, n = Fn.run l[k] (l.drop k) := ⟨_, rfl⟩
  rw [← hn] at hin q1 q2 hbi hbo ⊢
  clear hn
  obtain ⟨h42, h95, hc9⟩ := hsg
  have hj : ∃ x y, Em.judge l[k] n b a = ⟨l[k], n, x, y⟩ ∧ (x = (Em.leanB b a && (!Em.leanB a b || punctB b)) ∧ y = (Em.leanB a b && (!Em.leanB b a || punctB a))) := by
    unfold Em.judge
    rw [if_pos hc9]; exact ⟨_, _, rfl, rfl, rfl⟩
  obtain ⟨x, y, hj, hxy⟩ := hj
  rw [hj]
  clear hj
  have hcm : ((l[k].toNat : Int) == 42) = false ∧ ((l[k].toNat : Int) == 95) = true ∧ x = (Em.leanB b a && (!Em.leanB a b || punctB b)) ∧ y = (Em.leanB a b && (!Em.leanB b a || punctB a)) := ⟨h42, h95, hxy⟩
  clear h42 h95 hc9 hxy
  unfold Em.leanB at hcm
  obtain ⟨BA, hBA⟩ : ∃ v, blankB (a : Int) = v := ⟨_, rfl⟩
  obtain ⟨BB, hBB⟩ : ∃ v, blankB (b : Int) = v := ⟨_, rfl⟩
  obtain ⟨PA, hPA⟩ : ∃ v, punctB (a : Int) = v := ⟨_, rfl⟩
  obtain ⟨PB, hPB⟩ : ∃ v, punctB (b : Int) = v := ⟨_, rfl⟩
  rw [hBA, hBB, hPA, hPB] at hcm
  obtain ⟨ch, hch⟩ : ∃ ch, ch = l[k] := ⟨_, rfl⟩
  rw [← hch] at hix hne1 hne2 q1 hcm ⊢
  clear hch
  obtain ⟨T, hT⟩ : ∃ T, T = l.take k := ⟨_, rfl⟩
  have hTl : T.length = k := by rw [hT, List.length_take]; omega
  rw [← hT] at hup hbd
  clear hT
  have hst : Hid (∀ wz : World, Below (w.alloc (.cells #[.int .u8 0, .int .i64 0, .bool false, .bool false] 47)).heap.size (w.alloc (.cells #[.int .u8 0, .int .i64 0, .bool false, .bool false] 47)) wz →
      wz.cell? ⟨w.heap.size, 0, none⟩ = some (.int .u8 0) ∧ wz.cell? ⟨w.heap.size, 1, none⟩ = some (.int .i64 0) ∧ wz.cell? ⟨w.heap.size, 2, none⟩ = some (.bool false) ∧ wz.cell? ⟨w.heap.size, 3, none⟩ = some (.bool false) ∧ (∀ j, wz.frozen? ⟨w.heap.size, j, none⟩ = false) ∧ w.heap.size < wz.heap.size) :=
    Lib.hid fun wz h => by
      obtain ⟨k0, k1, k2, k3, k4⟩ := blk_open h
      have := h.size
      simp at this
      exact ⟨k0, k1, k2, k3, k4, by omega⟩
  have dd1 : decide ((k : Int) < 0) = false := decide_eq_false (by omega)
  have dd2 : decide (((l.length : Nat) : Int) ≤ (k : Int)) = false := decide_eq_false (by omega)
  have dd3 : decide (l.length ≤ k) = false := decide_eq_false (by omega)
  have dd4 : decide ((0 : Int) < (k : Int)) = false := decide_eq_false (by omega)
  have dd5 : decide (0 < k) = false := decide_eq_false (by omega)
  have dd6 : ((l.length : Nat) : Int) ≤ (k : Int) ↔ False := ⟨fun h => by omega, fun h => h.elim⟩
  obtain ⟨g1, g2, hx, hy⟩ := hcm
  replace hx := Lib.hid hx
  replace hy := Lib.hid hy
  go_enter Tryd.func16, Tryd.ntmps16
  go_wp2_with fail
  go_quiet (fail)
  go_wp2_with fail
  refine (q1 _).mono ?_
  rintro e w1 ⟨rfl, rfl⟩
  generalize hW : (w.alloc (.cells #[.int .u8 0, .int .i64 0, .bool false, .bool false] 47)).drewN nq = W
  have hB : Hid (Below (w.alloc (.cells #[.int .u8 0, .int .i64 0, .bool false, .bool false] 47)).heap.size (w.alloc (.cells #[.int .u8 0, .int .i64 0, .bool false, .bool false] 47)) W) := Lib.hid (by rw [← hW]; exact below_drewN (Below.refl _ _) nq)
  clear hW
  go_wp2_with fail
  go_loopw [8] (fun bv wr => ∃ (pos : Nat) (D : List Nat), bv = .int .i32 ((D.getLastD 32 : Nat) : Int) ∧ Hid (wr.heap[W.heap.size]? = some (.stringIter (bs T) pos)) ∧ Hid (D ++ Ru.runes (T.drop pos) = Ru.runes T) ∧ Below W.heap.size W wr)
    (fun _ wr => T.length - wr.iterPos W.heap.size)
  case atStart => exact ⟨0, [], rfl, Lib.hid (iter_new _ _ _ rfl), Lib.hid rfl, ext_alloc _ _⟩
  case round =>
    obtain ⟨pos, D, rfl, hit, hD, hb⟩ := hrel
    have hlt : W.heap.size < wr.heap.size := (Array.getElem?_eq_some_iff.1 hit.out).1
    by_cases hp : pos < T.length
    · obtain ⟨z, m, hm, hv, hd, hD2⟩ := runes_next hp hD.out
      have hnx := run_next_rune hit.out hp hd
      replace hD2 := Lib.hid hD2
      replace hd := Lib.hid hd
      have hit2 := Lib.hid (Lib.iterAt_heap wr W.heap.size (bs T) pos (pos + m) hit.out)
      have hb2 := Lib.below_iterAt hb (k := W.heap.size) (Nat.le_refl _) (bs T) (pos + m)
      have hpos : Hid (wr.iterPos W.heap.size = pos) := Lib.hid (by simp only [World.iterPos, hit.out])
      have hpos2 : Hid ((wr.iterAt W.heap.size (bs T) (pos + m)).iterPos W.heap.size = pos + m) := Lib.hid (by simp only [World.iterPos, hit2.out])
      clear q1 q2 hbi hbo hst hix hup
      go_wp2
      go_roundw
      case rel => exact ⟨pos + m, D ++ [z], by rw [List.getLastD_concat], hit2, hD2, hb2⟩
      case measure => rw [hpos.out, hpos2.out]; omega
    · have hnx := run_next_done hit.out hp
      have hDe := runes_done hp hD.out
      subst hDe
      rw [hbd.out]
      have hb0 := Lib.hid (hB.out.trans (hb.mono hB.out.size))
      replace hb := Lib.hid hb
      clear hD hbd hup
      by_cases hkn : k + n < l.length
      · have hav := hbi hkn
        have q3 := fun w => q2 w hkn hs
        rw [← hav] at q3
        clear hav hbi hbo q2 q1
        go_wp2_with fail
        refine (q3 _).mono ?_
        rintro e w3 ⟨rfl, hb3⟩
        have hb4 := Lib.hid (hb0.out.trans (hb3.mono hb0.out.size))
        clear q3 hb3 hit hb0 hb hB dd1 dd2 dd3 dd4 dd5 dd6
        go_upto_region 11 with fail
        refine kind_left _ _ BA BB PA PB w3 hBA hBB hPA hPB _ _ _ _ _ _ _ _ _ _ _ _ _ _ _ _ _ _ _ _ _ _ _ _ _ _ _ _ _ _ _ _ _ _ _ _ _ _ _ _ _ _ _ _ _ _ _ _ _ _ _ _ _ _ _ _ _ _ _ _ _ _ _ _ _ _ _ _ _ _ _ _ _ _ _ _ _ _ _ _ _ _ _ _ _ _ _ _ _ _ _ _ _ _ _ _ _ _ _ _ _ _ _ _ _ _ _ _ _ _ _ _ _ _ _ _ _ _ _ _ _ _ _ _ _ _ _ _ _ _ _ _ _ _ _ _ _ _ _ _ _ _ _ _ ?_
        intro v78 v79 v80 v81 v82 v83 v84 v85 v86 v87 v88 v89 v90 v91 v92 v93 wq hwq
        rw [hwq]
        clear hwq wq
        go_upto_region 12 with fail
        refine kind_right _ _ BA BB PA PB w3 hBA hBB hPA hPB _ _ _ _ _ _ _ _ _ _ _ _ _ _ _ _ _ _ _ _ _ _ _ _ _ _ _ _ _ _ _ _ _ _ _ _ _ _ _ _ _ _ _ _ _ _ _ _ _ _ _ _ _ _ _ _ _ _ _ _ _ _ _ _ _ _ _ _ _ _ _ _ _ _ _ _ _ _ _ _ _ _ _ _ _ _ _ _ _ _ _ _ _ _ _ _ _ _ _ _ _ _ _ _ _ _ _ _ _ _ _ _ _ _ _ _ _ _ _ _ _ _ _ _ _ _ _ _ _ _ _ _ _ _ _ _ _ _ _ _ _ _ _ _ ?_
        intro v94 v95 v96 v97 v98 v99 v100 v101 v102 v103 v104 v105 v106 v107 v108 v109 wq hwq
        rw [hwq]
        clear hwq wq
        go_upto_region 13 with fail
        refine kind_made l k n _ _ ch w3 hix _ _ _ _ _ _ _ _ _ _ _ _ _ _ _ _ _ _ _ _ _ _ _ _ _ _ _ _ _ _ _ _ _ _ _ _ _ _ _ _ _ _ _ _ _ _ _ _ _ _ _ _ _ _ _ _ _ _ _ _ _ _ _ _ _ _ _ _ _ _ _ _ _ _ _ _ _ _ _ _ _ _ _ _ _ _ _ _ _ _ _ _ _ _ _ _ _ _ _ _ _ _ _ _ _ _ _ _ _ _ _ _ _ _ _ _ _ _ _ _ _ _ _ _ _ _ _ _ _ _ _ _ _ _ _ _ _ _ _ _ _ ?_
        intro v110 v111 v112 v113 v114 v115 v116 w4 hw4
        have hh := Lib.hid (show w4.heap[(w3).heap.size]? = some (.cells #[.int .u8 (ch.toNat : Int), .int .i64 (n : Int), .bool (!BA && (!PA || BB || PB)), .bool (!BB && (!PB || BA || PA))] 47 (0, 0)) from by rw [hw4]; exact heap_alloc_new _ _)
        have hb5 := Lib.hid (show Below (w.alloc (.cells #[.int .u8 0, .int .i64 0, .bool false, .bool false] 47)).heap.size (w.alloc (.cells #[.int .u8 0, .int .i64 0, .bool false, .bool false] 47)) w4 from by rw [hw4]; exact hb4.out.alloc hb4.out.size _)
        have hg1 : w.heap.size < (w3).heap.size := (hst.out _ hb4.out).2.2.2.2.2
        have hg0 := hb4.out.size
        replace ex := hx.out
        replace ey := hy.out
        clear hw4 hx hy
        obtain ⟨y0, y1, y2, y3⟩ := four hh.out
        have yf := Lib.frozen_of_heap hh.out 2
        go_upto_region 15 with fail
        refine kind_opens _ _ PA PB _ _ (w3).heap.size _ w4 hPA hPB y2 yf _ _ _ _ _ _ _ _ _ _ _ _ _ _ _ _ _ _ _ _ _ _ _ _ _ _ _ _ _ _ _ _ _ _ _ _ _ _ _ _ _ _ _ _ _ _ _ _ _ _ _ _ _ _ _ _ _ _ _ _ _ _ _ _ _ _ _ _ _ _ _ _ _ _ _ _ _ _ _ _ _ _ _ _ _ _ _ _ _ _ _ _ _ _ _ _ _ _ _ _ _ _ _ _ _ _ _ _ _ _ _ _ _ _ _ _ _ _ _ _ _ _ _ _ _ _ _ _ _ _ _ _ _ _ _ _ _ _ _ _ _ ?_
        intro v121 v122 v123 v124 v125 v126 v127 v128 v129 v130 w5 hw5
        have hh5 := Lib.hid (show w5.heap[(w3).heap.size]? = some (.cells #[.int .u8 (ch.toNat : Int), .int .i64 (n : Int), .bool ((!BA && (!PA || BB || PB)) && (!(!BB && (!PB || BA || PA)) || PB)), .bool (!BB && (!PB || BA || PA))] 47 (0, 0)) from by rw [hw5]; exact heap_setCell_same _ _ 2 _ _ _ hh.out)
        have hb6 := Lib.hid (show Below _ _ w5 from by rw [hw5]; exact hb5.out.setCell (p := ⟨(w3).heap.size, 2, none⟩) (by simp; omega) _)
        obtain ⟨x0, x1, x2, x3⟩ := four hh5.out
        have xf := Lib.frozen_of_heap hh5.out 3
        clear hw5 y0 y1 y2 y3 yf
        go_upto_region 16 with fail
        refine kind_closes _ _ PA PB _ _ (w3).heap.size _ w5 hPA hPB x3 xf _ _ _ _ _ _ _ _ _ _ _ _ _ _ _ _ _ _ _ _ _ _ _ _ _ _ _ _ _ _ _ _ _ _ _ _ _ _ _ _ _ _ _ _ _ _ _ _ _ _ _ _ _ _ _ _ _ _ _ _ _ _ _ _ _ _ _ _ _ _ _ _ _ _ _ _ _ _ _ _ _ _ _ _ _ _ _ _ _ _ _ _ _ _ _ _ _ _ _ _ _ _ _ _ _ _ _ _ _ _ _ _ _ _ _ _ _ _ _ _ _ _ _ _ _ _ _ _ _ _ _ _ _ _ _ _ _ _ _ _ _ ?_
        intro v131 v132 v133 v134 v135 v136 v137 v138 v139 v140 w6 hw6
        have hh6 := Lib.hid (show w6.heap[(w3).heap.size]? = some (.cells #[.int .u8 (ch.toNat : Int), .int .i64 (n : Int), .bool ((!BA && (!PA || BB || PB)) && (!(!BB && (!PB || BA || PA)) || PB)), .bool ((!BB && (!PB || BA || PA)) && (!(!BA && (!PA || BB || PB)) || PA))] 47 (0, 0)) from by rw [hw6]; exact heap_setCell_same _ _ 3 _ _ _ hh5.out)
        have hb7 := Lib.hid (show Below _ _ w6 from by rw [hw6]; exact hb6.out.setCell (p := ⟨(w3).heap.size, 3, none⟩) (by simp; omega) _)
        clear hw6 x0 x1 x2 x3 xf
        obtain ⟨z0, z1, z2, z3⟩ := four hh6.out
        obtain ⟨k0, k1, k2, k3, k4, k5⟩ := hst.out _ hb7.out
        clear hst
        go_upto_region 17 with fail
        refine kind_last w.heap.size (w3).heap.size k n ch _ _ w6 (by omega) z0 z1 z2 z3 k0 k1 k2 k3 k4 _ _ _ _ _ _ _ _ _ _ _ _ _ _ _ _ _ _ _ _ _ _ _ _ _ _ _ _ _ _ _ _ _ _ _ _ _ _ _ _ _ _ _ _ _ _ _ _ _ _ _ _ _ _ _ _ _ _ _ _ _ _ _ _ _ _ _ _ _ _ _ _ _ _ _ _ _ _ _ _ _ _ _ _ _ _ _ _ _ _ _ _ _ _ _ _ _ _ _ _ _ _ _ _ _ _ _ _ _ _ _ _ _ _ _ _ _ _ _ _ _ _ _ _ _ _ _ _ _ _ _ _ _ _ _ _ _ _ _ _ _ _ ?_
        intro v141 v142 v143 v144 wq hwq
        rw [hwq]
        clear hwq wq z0 z1 z2 z3
        try clear hix
        try clear hne1
        try clear hne2
        try clear hnx
        try clear g1
        try clear g2
        try clear hBA
        try clear hBB
        try clear hPA
        try clear hPB
        try clear hTl
        try clear hlt
        try clear hsz
        try clear hix1
        try clear hpr
        try clear hp
        try clear hkn
        try clear hk1
        try clear hg1
        try clear hg0
        try clear q1
        go_wp2_with fail
        exact bodyPost_ret (v := .tuple #[.agg #[.int .u8 (ch.toNat : Int), .int .i64 (n : Int), .bool ((!BA && (!PA || BB || PB)) && (!(!BB && (!PB || BA || PA)) || PB)), .bool ((!BB && (!PB || BA || PA)) && (!(!BA && (!PA || BB || PB)) || PA))], .int .i64 ((k + n : Nat) : Int), .bool true]) (by rw [results_cell_tmp2 rfl]; go_simp) rfl ⟨by rw [ex, ey]; rfl, blk_done hb7.out _ _ _ _⟩
      · obtain rfl := hbo hkn
        rw [show ((32 : Nat) : Int) = 32 from rfl] at hBA hPA
        have hb4 := hb0
        clear hbi hbo q2 q1 hit hb0 hb hB dd1 dd2 dd3 dd4 dd5 dd6
        go_upto_region 11 with fail
        refine kind_left _ _ BA BB PA PB wr hBA hBB hPA hPB _ _ _ _ _ _ _ _ _ _ _ _ _ _ _ _ _ _ _ _ _ _ _ _ _ _ _ _ _ _ _ _ _ _ _ _ _ _ _ _ _ _ _ _ _ _ _ _ _ _ _ _ _ _ _ _ _ _ _ _ _ _ _ _ _ _ _ _ _ _ _ _ _ _ _ _ _ _ _ _ _ _ _ _ _ _ _ _ _ _ _ _ _ _ _ _ _ _ _ _ _ _ _ _ _ _ _ _ _ _ _ _ _ _ _ _ _ _ _ _ _ _ _ _ _ _ _ _ _ _ _ _ _ _ _ _ _ _ _ _ _ _ _ _ ?_
        intro v78 v79 v80 v81 v82 v83 v84 v85 v86 v87 v88 v89 v90 v91 v92 v93 wq hwq
        rw [hwq]
        clear hwq wq
        go_upto_region 12 with fail
        refine kind_right _ _ BA BB PA PB wr hBA hBB hPA hPB _ _ _ _ _ _ _ _ _ _ _ _ _ _ _ _ _ _ _ _ _ _ _ _ _ _ _ _ _ _ _ _ _ _ _ _ _ _ _ _ _ _ _ _ _ _ _ _ _ _ _ _ _ _ _ _ _ _ _ _ _ _ _ _ _ _ _ _ _ _ _ _ _ _ _ _ _ _ _ _ _ _ _ _ _ _ _ _ _ _ _ _ _ _ _ _ _ _ _ _ _ _ _ _ _ _ _ _ _ _ _ _ _ _ _ _ _ _ _ _ _ _ _ _ _ _ _ _ _ _ _ _ _ _ _ _ _ _ _ _ _ _ _ _ ?_
        intro v94 v95 v96 v97 v98 v99 v100 v101 v102 v103 v104 v105 v106 v107 v108 v109 wq hwq
        rw [hwq]
        clear hwq wq
        go_upto_region 13 with fail
        refine kind_made l k n _ _ ch wr hix _ _ _ _ _ _ _ _ _ _ _ _ _ _ _ _ _ _ _ _ _ _ _ _ _ _ _ _ _ _ _ _ _ _ _ _ _ _ _ _ _ _ _ _ _ _ _ _ _ _ _ _ _ _ _ _ _ _ _ _ _ _ _ _ _ _ _ _ _ _ _ _ _ _ _ _ _ _ _ _ _ _ _ _ _ _ _ _ _ _ _ _ _ _ _ _ _ _ _ _ _ _ _ _ _ _ _ _ _ _ _ _ _ _ _ _ _ _ _ _ _ _ _ _ _ _ _ _ _ _ _ _ _ _ _ _ _ _ _ _ _ ?_
        intro v110 v111 v112 v113 v114 v115 v116 w4 hw4
        have hh := Lib.hid (show w4.heap[(wr).heap.size]? = some (.cells #[.int .u8 (ch.toNat : Int), .int .i64 (n : Int), .bool (!BA && (!PA || BB || PB)), .bool (!BB && (!PB || BA || PA))] 47 (0, 0)) from by rw [hw4]; exact heap_alloc_new _ _)
        have hb5 := Lib.hid (show Below (w.alloc (.cells #[.int .u8 0, .int .i64 0, .bool false, .bool false] 47)).heap.size (w.alloc (.cells #[.int .u8 0, .int .i64 0, .bool false, .bool false] 47)) w4 from by rw [hw4]; exact hb4.out.alloc hb4.out.size _)
        have hg1 : w.heap.size < (wr).heap.size := (hst.out _ hb4.out).2.2.2.2.2
        have hg0 := hb4.out.size
        replace ex := hx.out
        replace ey := hy.out
        clear hw4 hx hy
        obtain ⟨y0, y1, y2, y3⟩ := four hh.out
        have yf := Lib.frozen_of_heap hh.out 2
        go_upto_region 15 with fail
        refine kind_opens _ _ PA PB _ _ (wr).heap.size _ w4 hPA hPB y2 yf _ _ _ _ _ _ _ _ _ _ _ _ _ _ _ _ _ _ _ _ _ _ _ _ _ _ _ _ _ _ _ _ _ _ _ _ _ _ _ _ _ _ _ _ _ _ _ _ _ _ _ _ _ _ _ _ _ _ _ _ _ _ _ _ _ _ _ _ _ _ _ _ _ _ _ _ _ _ _ _ _ _ _ _ _ _ _ _ _ _ _ _ _ _ _ _ _ _ _ _ _ _ _ _ _ _ _ _ _ _ _ _ _ _ _ _ _ _ _ _ _ _ _ _ _ _ _ _ _ _ _ _ _ _ _ _ _ _ _ _ _ ?_
        intro v121 v122 v123 v124 v125 v126 v127 v128 v129 v130 w5 hw5
        have hh5 := Lib.hid (show w5.heap[(wr).heap.size]? = some (.cells #[.int .u8 (ch.toNat : Int), .int .i64 (n : Int), .bool ((!BA && (!PA || BB || PB)) && (!(!BB && (!PB || BA || PA)) || PB)), .bool (!BB && (!PB || BA || PA))] 47 (0, 0)) from by rw [hw5]; exact heap_setCell_same _ _ 2 _ _ _ hh.out)
        have hb6 := Lib.hid (show Below _ _ w5 from by rw [hw5]; exact hb5.out.setCell (p := ⟨(wr).heap.size, 2, none⟩) (by simp; omega) _)
        obtain ⟨x0, x1, x2, x3⟩ := four hh5.out
        have xf := Lib.frozen_of_heap hh5.out 3
        clear hw5 y0 y1 y2 y3 yf
        go_upto_region 16 with fail
        refine kind_closes _ _ PA PB _ _ (wr).heap.size _ w5 hPA hPB x3 xf _ _ _ _ _ _ _ _ _ _ _ _ _ _ _ _ _ _ _ _ _ _ _ _ _ _ _ _ _ _ _ _ _ _ _ _ _ _ _ _ _ _ _ _ _ _ _ _ _ _ _ _ _ _ _ _ _ _ _ _ _ _ _ _ _ _ _ _ _ _ _ _ _ _ _ _ _ _ _ _ _ _ _ _ _ _ _ _ _ _ _ _ _ _ _ _ _ _ _ _ _ _ _ _ _ _ _ _ _ _ _ _ _ _ _ _ _ _ _ _ _ _ _ _ _ _ _ _ _ _ _ _ _ _ _ _ _ _ _ _ _ ?_
        intro v131 v132 v133 v134 v135 v136 v137 v138 v139 v140 w6 hw6
        have hh6 := Lib.hid (show w6.heap[(wr).heap.size]? = some (.cells #[.int .u8 (ch.toNat : Int), .int .i64 (n : Int), .bool ((!BA && (!PA || BB || PB)) && (!(!BB && (!PB || BA || PA)) || PB)), .bool ((!BB && (!PB || BA || PA)) && (!(!BA && (!PA || BB || PB)) || PA))] 47 (0, 0)) from by rw [hw6]; exact heap_setCell_same _ _ 3 _ _ _ hh5.out)
        have hb7 := Lib.hid (show Below _ _ w6 from by rw [hw6]; exact hb6.out.setCell (p := ⟨(wr).heap.size, 3, none⟩) (by simp; omega) _)
        clear hw6 x0 x1 x2 x3 xf
        obtain ⟨z0, z1, z2, z3⟩ := four hh6.out
        obtain ⟨k0, k1, k2, k3, k4, k5⟩ := hst.out _ hb7.out
        clear hst
        go_upto_region 17 with fail
        refine kind_last w.heap.size (wr).heap.size k n ch _ _ w6 (by omega) z0 z1 z2 z3 k0 k1 k2 k3 k4 _ _ _ _ _ _ _ _ _ _ _ _ _ _ _ _ _ _ _ _ _ _ _ _ _ _ _ _ _ _ _ _ _ _ _ _ _ _ _ _ _ _ _ _ _ _ _ _ _ _ _ _ _ _ _ _ _ _ _ _ _ _ _ _ _ _ _ _ _ _ _ _ _ _ _ _ _ _ _ _ _ _ _ _ _ _ _ _ _ _ _ _ _ _ _ _ _ _ _ _ _ _ _ _ _ _ _ _ _ _ _ _ _ _ _ _ _ _ _ _ _ _ _ _ _ _ _ _ _ _ _ _ _ _ _ _ _ _ _ _ _ _ ?_
        intro v141 v142 v143 v144 wq hwq
        rw [hwq]
        clear hwq wq z0 z1 z2 z3
        try clear hix
        try clear hne1
        try clear hne2
        try clear hnx
        try clear g1
        try clear g2
        try clear hBA
        try clear hBB
        try clear hPA
        try clear hPB
        try clear hTl
        try clear hlt
        try clear hsz
        try clear hix1
        try clear hpr
        try clear hp
        try clear hkn
        try clear hk1
        try clear hg1
        try clear hg0
        try clear q1
        go_wp2_with fail
        exact bodyPost_ret (v := .tuple #[.agg #[.int .u8 (ch.toNat : Int), .int .i64 (n : Int), .bool ((!BA && (!PA || BB || PB)) && (!(!BB && (!PB || BA || PA)) || PB)), .bool ((!BB && (!PB || BA || PA)) && (!(!BA && (!PA || BB || PB)) || PA))], .int .i64 ((k + n : Nat) : Int), .bool true]) (by rw [results_cell_tmp2 rfl]; go_simp) rfl ⟨by rw [ex, ey]; rfl, blk_done hb7.out _ _ _ _⟩
end Go.Proofs.YtboeaofcioolnaaDoor
