/- The document's own judging of a run, further on, _. The document's own judging of a run: what is none, and all of it. Package emph: held, nearest, pair, closeWith, and how Match begins. The document's own inlines: what stands between a pair's runs is put into one, pair by pair. What has been read of a text, as it lies in memory: a row of parts, a row of runs, each in a block of its own, the parts' kids in others. The document's own inlines: a text parted. Inlines, by no program: what a text is parted into has not too many kids, and says not too much: of the whole text. Inlines, by no program: a row is as rows are: no plain beside another, none empty, no link in a link. -/
import Derived.Test.YtkfhkfagmokjpaaGreatDoorMp11
import Derived.Test.YtkfhkfagmokjpaaGreatDoorMp04
import Derived.Test.YtkfhkfagmokjpaaGreatDoorMp12
import Derived.Deep.DeepCutAuto
import Derived.Test.YtkfhkfagmokjpaaGreatDoorMp14
import Derived.Test.YtkfhkfagmokjpaaGreatDoorMp05
import Derived.Test.YtkfhkfagmokjpaaGreatDoorMp02
import Derived.Test.YtkfhkfagmokjpaaGreatDoorMp13
namespace Go.Proofs.YtkfhkfagmokjpaaGreatDoor
open Go.RowKit


set_option maxHeartbeats 8000000 in
set_option maxRecDepth 100000 in
theorem rkind_on_p95 (l : List UInt8) (k : Nat) (hk : k < l.length) (hs : l.length ≤ 1000000000000) (hsg : ((l[k].toNat : Int) == 42) = false ∧ ((l[k].toNat : Int) == 95) = true ∧ l[k] = 95) (hk0 : (0 : Int) < (k : Int)) (hk1 : k - 1 < l.length) (hpr : ((l[k - 1].toNat : Int) == (l[k].toNat : Int)) = false) (w : World) :
    Calls Tryz.prog 31 #[.string (bs l), .int .i64 (k : Int)] w fun e w' => e = .returned (kindV (some (Em.judge l[k] (Fn.run l[k] (l.drop k)) (Em.ahead l k) (Em.behind l (k + Fn.run l[k] (l.drop k))), k + Fn.run l[k] (l.drop k)))) ∧ Below w.heap.size w w' := by
  have hsz := bs_size l
  have hix := run_byte hk
  have hix1 := run_byte_at (i := k - 1) (v := (k : Int) - 1) (S := l) hk1 (by omega)
  have hup := run_upto (S := l) (i := k) (by omega)
  have hne1 : ((l[k].toNat : Int) != 42) = !((l[k].toNat : Int) == 42) := rfl
  have hne2 : ((l[k].toNat : Int) != 95) = !((l[k].toNat : Int) == 95) := rfl
  have hin := Em.runs_in hk l[k]
  have q1 := rrun_any l k l[k]
  replace q1 := fun w => q1 w (by omega) (by omega)
  have q2 := fun w => rone_any l (k + Fn.run l[k] (l.drop k)) (w := w)
  have hbi : k + Fn.run l[k] (l.drop k) < l.length → Em.behind l (k + Fn.run l[k] (l.drop k)) = (Lib.decodeL (l.drop (k + Fn.run l[k] (l.drop k)))).1 := Em.behind_in
  have hbo : ¬ k + Fn.run l[k] (l.drop k) < l.length → Em.behind l (k + Fn.run l[k] (l.drop k)) = 32 := Em.behind_out
  obtain ⟨a, ha⟩ : ∃ a, a = Em.behind l (k + Fn.run l[k] (l.drop k)) := ⟨_, rfl⟩
  obtain ⟨b, hb⟩ : ∃ b, b = Em.ahead l k := ⟨_, rfl⟩
  rw [← ha] at hbi hbo
  rw [← ha, ← hb]
  clear ha
  have hbd : Hid ((Ru.runes (l.take k)).getLastD 32 = b) := Lib.hid hb.symm
  clear hb
  obtain ⟨n, hn⟩ : ∃ n, n = Fn.run l[k] (l.drop k) := ⟨_, rfl⟩
  rw [← hn] at hin q1 q2 hbi hbo ⊢
  clear hn
  obtain ⟨h42, h95, hc9⟩ := hsg
  have hj : ∃ x y, Em.judge l[k] n b a = ⟨l[k], n, x, y⟩ ∧ (x = (Em.leanB b a && (!Em.leanB a b || punctB b)) ∧ y = (Em.leanB a b && (!Em.leanB b a || punctB a))) := by
    unfold Em.judge
    rw [if_pos hc9]; exact ⟨_, _, rfl, rfl, rfl⟩
  obtain ⟨x, y, hj, hxy⟩ := hj
  rw [hj]
  clear hj
  have hcm : ((l[k].toNat : Int) == 42) = false ∧ ((l[k].toNat : Int) == 95) = true ∧ x = (Em.leanB b a && (!Em.leanB a b || punctB b)) ∧ y = (Em.leanB a b && (!Em.leanB b a || punctB a)) := ⟨h42, h95, hxy⟩
  clear h42 h95 hc9 hxy
  unfold Em.leanB at hcm
  obtain ⟨BA, hBA⟩ : ∃ v, blankB (a : Int) = v := ⟨_, rfl⟩
  obtain ⟨BB, hBB⟩ : ∃ v, blankB (b : Int) = v := ⟨_, rfl⟩
  obtain ⟨PA, hPA⟩ : ∃ v, punctB (a : Int) = v := ⟨_, rfl⟩
  obtain ⟨PB, hPB⟩ : ∃ v, punctB (b : Int) = v := ⟨_, rfl⟩
  rw [hBA, hBB, hPA, hPB] at hcm
  obtain ⟨ch, hch⟩ : ∃ ch, ch = l[k] := ⟨_, rfl⟩
  rw [← hch] at hix hne1 hne2 q1 hcm hpr ⊢
  clear hch
  obtain ⟨T, hT⟩ : ∃ T, T = l.take k := ⟨_, rfl⟩
  have hTl : T.length = k := by rw [hT, List.length_take]; omega
  rw [← hT] at hup hbd
  clear hT
  have hst : Hid (∀ wz : World, Below (w.alloc (.cells #[.int .u8 0, .int .i64 0, .bool false, .bool false] 74)).heap.size (w.alloc (.cells #[.int .u8 0, .int .i64 0, .bool false, .bool false] 74)) wz →
      wz.cell? ⟨w.heap.size, 0, none⟩ = some (.int .u8 0) ∧ wz.cell? ⟨w.heap.size, 1, none⟩ = some (.int .i64 0) ∧ wz.cell? ⟨w.heap.size, 2, none⟩ = some (.bool false) ∧ wz.cell? ⟨w.heap.size, 3, none⟩ = some (.bool false) ∧ (∀ j, wz.frozen? ⟨w.heap.size, j, none⟩ = false) ∧ w.heap.size < wz.heap.size) :=
    Lib.hid fun wz h => by
      obtain ⟨k0, k1, k2, k3, k4⟩ := blk_open h
      have := h.size
      simp at this
      exact ⟨k0, k1, k2, k3, k4, by omega⟩
  have dd1 : decide ((k : Int) < 0) = false := decide_eq_false (by omega)
  have dd2 : decide (((l.length : Nat) : Int) ≤ (k : Int)) = false := decide_eq_false (by omega)
  have dd3 : decide (l.length ≤ k) = false := decide_eq_false (by omega)
  have dd4 : decide ((0 : Int) < (k : Int)) = true := decide_eq_true (by omega)
  have dd5 : decide (0 < k) = true := decide_eq_true (by omega)
  have dd6 : ((l.length : Nat) : Int) ≤ (k : Int) ↔ False := ⟨fun h => by omega, fun h => h.elim⟩
  obtain ⟨g1, g2, hx, hy⟩ := hcm
  replace hx := Lib.hid hx
  replace hy := Lib.hid hy
  go_enter Tryz.func31, Tryz.ntmps31
  go_wp2_with fail
  go_quiet (fail)
  go_wp2_with fail
  refine (q1 _).mono ?_
  rintro e w1 ⟨rfl, rfl⟩
  generalize hW : (w.alloc (.cells #[.int .u8 0, .int .i64 0, .bool false, .bool false] 74)).drewN nq = W
  have hB : Hid (Below (w.alloc (.cells #[.int .u8 0, .int .i64 0, .bool false, .bool false] 74)).heap.size (w.alloc (.cells #[.int .u8 0, .int .i64 0, .bool false, .bool false] 74)) W) := Lib.hid (by rw [← hW]; exact below_drewN (Below.refl _ _) nq)
  clear hW
  go_wp2_with fail
  go_loopw [8] (fun bv wr => ∃ (pos : Nat) (D : List Nat), bv = .int .i32 ((D.getLastD 32 : Nat) : Int) ∧ Hid (wr.heap[W.heap.size]? = some (.stringIter (bs T) pos)) ∧ Hid (D ++ Ru.runes (T.drop pos) = Ru.runes T) ∧ Below W.heap.size W wr)
    (fun _ wr => T.length - wr.iterPos W.heap.size)
  case atStart => exact ⟨0, [], rfl, Lib.hid (iter_new _ _ _ rfl), Lib.hid rfl, ext_alloc _ _⟩
  case round =>
    obtain ⟨pos, D, rfl, hit, hD, hb⟩ := hrel
    have hlt : W.heap.size < wr.heap.size := (Array.getElem?_eq_some_iff.1 hit.out).1
    by_cases hp : pos < T.length
    · obtain ⟨z, m, hm, hv, hd, hD2⟩ := runes_next hp hD.out
      have hnx := run_next_rune hit.out hp hd
      replace hD2 := Lib.hid hD2
      replace hd := Lib.hid hd
      have hit2 := Lib.hid (Lib.iterAt_heap wr W.heap.size (bs T) pos (pos + m) hit.out)
      have hb2 := Lib.below_iterAt hb (k := W.heap.size) (Nat.le_refl _) (bs T) (pos + m)
      have hpos : Hid (wr.iterPos W.heap.size = pos) := Lib.hid (by simp only [World.iterPos, hit.out])
      have hpos2 : Hid ((wr.iterAt W.heap.size (bs T) (pos + m)).iterPos W.heap.size = pos + m) := Lib.hid (by simp only [World.iterPos, hit2.out])
      clear q1 q2 hbi hbo hst hix hup
      go_wp2
      go_roundw
      case rel => exact ⟨pos + m, D ++ [z], by rw [List.getLastD_concat], hit2, hD2, hb2⟩
      case measure => rw [hpos.out, hpos2.out]; omega
    · have hnx := run_next_done hit.out hp
      have hDe := runes_done hp hD.out
      subst hDe
      rw [hbd.out]
      have hb0 := Lib.hid (hB.out.trans (hb.mono hB.out.size))
      replace hb := Lib.hid hb
      clear hD hbd hup
      by_cases hkn : k + n < l.length
      · have hav := hbi hkn
        have q3 := fun w => q2 w hkn hs
        rw [← hav] at q3
        clear hav hbi hbo q2 q1
        go_wp2_with fail
        refine (q3 _).mono ?_
        rintro e w3 ⟨rfl, hb3⟩
        have hb4 := Lib.hid (hb0.out.trans (hb3.mono hb0.out.size))
        clear q3 hb3 hit hb0 hb hB dd1 dd2 dd3 dd4 dd5 dd6
        go_upto_region 11 with fail
        refine kind_left _ _ BA BB PA PB w3 hBA hBB hPA hPB _ _ _ _ _ _ _ _ _ _ _ _ _ _ _ _ _ _ _ _ _ _ _ _ _ _ _ _ _ _ _ _ _ _ _ _ _ _ _ _ _ _ _ _ _ _ _ _ _ _ _ _ _ _ _ _ _ _ _ _ _ _ _ _ _ _ _ _ _ _ _ _ _ _ _ _ _ _ _ _ _ _ _ _ _ _ _ _ _ _ _ _ _ _ _ _ _ _ _ _ _ _ _ _ _ _ _ _ _ _ _ _ _ _ _ _ _ _ _ _ _ _ _ _ _ _ _ _ _ _ _ _ _ _ _ _ _ _ _ _ _ _ _ _ ?_
        intro v78 v79 v80 v81 v82 v83 v84 v85 v86 v87 v88 v89 v90 v91 v92 v93 wq hwq
        rw [hwq]
        clear hwq wq
        go_upto_region 12 with fail
        refine kind_right _ _ BA BB PA PB w3 hBA hBB hPA hPB _ _ _ _ _ _ _ _ _ _ _ _ _ _ _ _ _ _ _ _ _ _ _ _ _ _ _ _ _ _ _ _ _ _ _ _ _ _ _ _ _ _ _ _ _ _ _ _ _ _ _ _ _ _ _ _ _ _ _ _ _ _ _ _ _ _ _ _ _ _ _ _ _ _ _ _ _ _ _ _ _ _ _ _ _ _ _ _ _ _ _ _ _ _ _ _ _ _ _ _ _ _ _ _ _ _ _ _ _ _ _ _ _ _ _ _ _ _ _ _ _ _ _ _ _ _ _ _ _ _ _ _ _ _ _ _ _ _ _ _ _ _ _ _ ?_
        intro v94 v95 v96 v97 v98 v99 v100 v101 v102 v103 v104 v105 v106 v107 v108 v109 wq hwq
        rw [hwq]
        clear hwq wq
        go_upto_region 13 with fail
        refine kind_made l k n _ _ ch w3 hix _ _ _ _ _ _ _ _ _ _ _ _ _ _ _ _ _ _ _ _ _ _ _ _ _ _ _ _ _ _ _ _ _ _ _ _ _ _ _ _ _ _ _ _ _ _ _ _ _ _ _ _ _ _ _ _ _ _ _ _ _ _ _ _ _ _ _ _ _ _ _ _ _ _ _ _ _ _ _ _ _ _ _ _ _ _ _ _ _ _ _ _ _ _ _ _ _ _ _ _ _ _ _ _ _ _ _ _ _ _ _ _ _ _ _ _ _ _ _ _ _ _ _ _ _ _ _ _ _ _ _ _ _ _ _ _ _ _ _ _ _ ?_
        intro v110 v111 v112 v113 v114 v115 v116 w4 hw4
        have hh := Lib.hid (show w4.heap[(w3).heap.size]? = some (.cells #[.int .u8 (ch.toNat : Int), .int .i64 (n : Int), .bool (!BA && (!PA || BB || PB)), .bool (!BB && (!PB || BA || PA))] 74 (0, 0)) from by rw [hw4]; exact heap_alloc_new _ _)
        have hb5 := Lib.hid (show Below (w.alloc (.cells #[.int .u8 0, .int .i64 0, .bool false, .bool false] 74)).heap.size (w.alloc (.cells #[.int .u8 0, .int .i64 0, .bool false, .bool false] 74)) w4 from by rw [hw4]; exact hb4.out.alloc hb4.out.size _)
        have hg1 : w.heap.size < (w3).heap.size := (hst.out _ hb4.out).2.2.2.2.2
        have hg0 := hb4.out.size
        replace ex := hx.out
        replace ey := hy.out
        clear hw4 hx hy
        obtain ⟨y0, y1, y2, y3⟩ := four hh.out
        have yf := Lib.frozen_of_heap hh.out 2
        go_upto_region 15 with fail
        refine kind_opens _ _ PA PB _ _ (w3).heap.size _ w4 hPA hPB y2 yf _ _ _ _ _ _ _ _ _ _ _ _ _ _ _ _ _ _ _ _ _ _ _ _ _ _ _ _ _ _ _ _ _ _ _ _ _ _ _ _ _ _ _ _ _ _ _ _ _ _ _ _ _ _ _ _ _ _ _ _ _ _ _ _ _ _ _ _ _ _ _ _ _ _ _ _ _ _ _ _ _ _ _ _ _ _ _ _ _ _ _ _ _ _ _ _ _ _ _ _ _ _ _ _ _ _ _ _ _ _ _ _ _ _ _ _ _ _ _ _ _ _ _ _ _ _ _ _ _ _ _ _ _ _ _ _ _ _ _ _ _ ?_
        intro v121 v122 v123 v124 v125 v126 v127 v128 v129 v130 w5 hw5
        have hh5 := Lib.hid (show w5.heap[(w3).heap.size]? = some (.cells #[.int .u8 (ch.toNat : Int), .int .i64 (n : Int), .bool ((!BA && (!PA || BB || PB)) && (!(!BB && (!PB || BA || PA)) || PB)), .bool (!BB && (!PB || BA || PA))] 74 (0, 0)) from by rw [hw5]; exact heap_setCell_same _ _ 2 _ _ _ hh.out)
        have hb6 := Lib.hid (show Below _ _ w5 from by rw [hw5]; exact hb5.out.setCell (p := ⟨(w3).heap.size, 2, none⟩) (by simp; omega) _)
        obtain ⟨x0, x1, x2, x3⟩ := four hh5.out
        have xf := Lib.frozen_of_heap hh5.out 3
        clear hw5 y0 y1 y2 y3 yf
        go_upto_region 16 with fail
        refine kind_closes _ _ PA PB _ _ (w3).heap.size _ w5 hPA hPB x3 xf _ _ _ _ _ _ _ _ _ _ _ _ _ _ _ _ _ _ _ _ _ _ _ _ _ _ _ _ _ _ _ _ _ _ _ _ _ _ _ _ _ _ _ _ _ _ _ _ _ _ _ _ _ _ _ _ _ _ _ _ _ _ _ _ _ _ _ _ _ _ _ _ _ _ _ _ _ _ _ _ _ _ _ _ _ _ _ _ _ _ _ _ _ _ _ _ _ _ _ _ _ _ _ _ _ _ _ _ _ _ _ _ _ _ _ _ _ _ _ _ _ _ _ _ _ _ _ _ _ _ _ _ _ _ _ _ _ _ _ _ _ ?_
        intro v131 v132 v133 v134 v135 v136 v137 v138 v139 v140 w6 hw6
        have hh6 := Lib.hid (show w6.heap[(w3).heap.size]? = some (.cells #[.int .u8 (ch.toNat : Int), .int .i64 (n : Int), .bool ((!BA && (!PA || BB || PB)) && (!(!BB && (!PB || BA || PA)) || PB)), .bool ((!BB && (!PB || BA || PA)) && (!(!BA && (!PA || BB || PB)) || PA))] 74 (0, 0)) from by rw [hw6]; exact heap_setCell_same _ _ 3 _ _ _ hh5.out)
        have hb7 := Lib.hid (show Below _ _ w6 from by rw [hw6]; exact hb6.out.setCell (p := ⟨(w3).heap.size, 3, none⟩) (by simp; omega) _)
        clear hw6 x0 x1 x2 x3 xf
        obtain ⟨z0, z1, z2, z3⟩ := four hh6.out
        obtain ⟨k0, k1, k2, k3, k4, k5⟩ := hst.out _ hb7.out
        clear hst
        go_upto_region 17 with fail
        refine kind_last w.heap.size (w3).heap.size k n ch _ _ w6 (by omega) z0 z1 z2 z3 k0 k1 k2 k3 k4 _ _ _ _ _ _ _ _ _ _ _ _ _ _ _ _ _ _ _ _ _ _ _ _ _ _ _ _ _ _ _ _ _ _ _ _ _ _ _ _ _ _ _ _ _ _ _ _ _ _ _ _ _ _ _ _ _ _ _ _ _ _ _ _ _ _ _ _ _ _ _ _ _ _ _ _ _ _ _ _ _ _ _ _ _ _ _ _ _ _ _ _ _ _ _ _ _ _ _ _ _ _ _ _ _ _ _ _ _ _ _ _ _ _ _ _ _ _ _ _ _ _ _ _ _ _ _ _ _ _ _ _ _ _ _ _ _ _ _ _ _ _ ?_
        intro v141 v142 v143 v144 wq hwq
        rw [hwq]
        clear hwq wq z0 z1 z2 z3
        try clear hix
        try clear hne1
        try clear hne2
        try clear hnx
        try clear g1
        try clear g2
        try clear hBA
        try clear hBB
        try clear hPA
        try clear hPB
        try clear hTl
        try clear hlt
        try clear hsz
        try clear hix1
        try clear hpr
        try clear hp
        try clear hkn
        try clear hk1
        try clear hg1
        try clear hg0
        try clear q1
        go_wp2_with fail
        exact bodyPost_ret (v := .tuple #[.agg #[.int .u8 (ch.toNat : Int), .int .i64 (n : Int), .bool ((!BA && (!PA || BB || PB)) && (!(!BB && (!PB || BA || PA)) || PB)), .bool ((!BB && (!PB || BA || PA)) && (!(!BA && (!PA || BB || PB)) || PA))], .int .i64 ((k + n : Nat) : Int), .bool true]) (by rw [results_cell_tmp2 rfl]; go_simp) rfl ⟨by rw [ex, ey]; rfl, blk_done hb7.out _ _ _ _⟩
      · obtain rfl := hbo hkn
        rw [show ((32 : Nat) : Int) = 32 from rfl] at hBA hPA
        have hb4 := hb0
        clear hbi hbo q2 q1 hit hb0 hb hB dd1 dd2 dd3 dd4 dd5 dd6
        go_upto_region 11 with fail
        refine kind_left _ _ BA BB PA PB wr hBA hBB hPA hPB _ _ _ _ _ _ _ _ _ _ _ _ _ _ _ _ _ _ _ _ _ _ _ _ _ _ _ _ _ _ _ _ _ _ _ _ _ _ _ _ _ _ _ _ _ _ _ _ _ _ _ _ _ _ _ _ _ _ _ _ _ _ _ _ _ _ _ _ _ _ _ _ _ _ _ _ _ _ _ _ _ _ _ _ _ _ _ _ _ _ _ _ _ _ _ _ _ _ _ _ _ _ _ _ _ _ _ _ _ _ _ _ _ _ _ _ _ _ _ _ _ _ _ _ _ _ _ _ _ _ _ _ _ _ _ _ _ _ _ _ _ _ _ _ ?_
        intro v78 v79 v80 v81 v82 v83 v84 v85 v86 v87 v88 v89 v90 v91 v92 v93 wq hwq
        rw [hwq]
        clear hwq wq
        go_upto_region 12 with fail
        refine kind_right _ _ BA BB PA PB wr hBA hBB hPA hPB _ _ _ _ _ _ _ _ _ _ _ _ _ _ _ _ _ _ _ _ _ _ _ _ _ _ _ _ _ _ _ _ _ _ _ _ _ _ _ _ _ _ _ _ _ _ _ _ _ _ _ _ _ _ _ _ _ _ _ _ _ _ _ _ _ _ _ _ _ _ _ _ _ _ _ _ _ _ _ _ _ _ _ _ _ _ _ _ _ _ _ _ _ _ _ _ _ _ _ _ _ _ _ _ _ _ _ _ _ _ _ _ _ _ _ _ _ _ _ _ _ _ _ _ _ _ _ _ _ _ _ _ _ _ _ _ _ _ _ _ _ _ _ _ ?_
        intro v94 v95 v96 v97 v98 v99 v100 v101 v102 v103 v104 v105 v106 v107 v108 v109 wq hwq
        rw [hwq]
        clear hwq wq
        go_upto_region 13 with fail
        refine kind_made l k n _ _ ch wr hix _ _ _ _ _ _ _ _ _ _ _ _ _ _ _ _ _ _ _ _ _ _ _ _ _ _ _ _ _ _ _ _ _ _ _ _ _ _ _ _ _ _ _ _ _ _ _ _ _ _ _ _ _ _ _ _ _ _ _ _ _ _ _ _ _ _ _ _ _ _ _ _ _ _ _ _ _ _ _ _ _ _ _ _ _ _ _ _ _ _ _ _ _ _ _ _ _ _ _ _ _ _ _ _ _ _ _ _ _ _ _ _ _ _ _ _ _ _ _ _ _ _ _ _ _ _ _ _ _ _ _ _ _ _ _ _ _ _ _ _ _ ?_
        intro v110 v111 v112 v113 v114 v115 v116 w4 hw4
        have hh := Lib.hid (show w4.heap[(wr).heap.size]? = some (.cells #[.int .u8 (ch.toNat : Int), .int .i64 (n : Int), .bool (!BA && (!PA || BB || PB)), .bool (!BB && (!PB || BA || PA))] 74 (0, 0)) from by rw [hw4]; exact heap_alloc_new _ _)
        have hb5 := Lib.hid (show Below (w.alloc (.cells #[.int .u8 0, .int .i64 0, .bool false, .bool false] 74)).heap.size (w.alloc (.cells #[.int .u8 0, .int .i64 0, .bool false, .bool false] 74)) w4 from by rw [hw4]; exact hb4.out.alloc hb4.out.size _)
        have hg1 : w.heap.size < (wr).heap.size := (hst.out _ hb4.out).2.2.2.2.2
        have hg0 := hb4.out.size
        replace ex := hx.out
        replace ey := hy.out
        clear hw4 hx hy
        obtain ⟨y0, y1, y2, y3⟩ := four hh.out
        have yf := Lib.frozen_of_heap hh.out 2
        go_upto_region 15 with fail
        refine kind_opens _ _ PA PB _ _ (wr).heap.size _ w4 hPA hPB y2 yf _ _ _ _ _ _ _ _ _ _ _ _ _ _ _ _ _ _ _ _ _ _ _ _ _ _ _ _ _ _ _ _ _ _ _ _ _ _ _ _ _ _ _ _ _ _ _ _ _ _ _ _ _ _ _ _ _ _ _ _ _ _ _ _ _ _ _ _ _ _ _ _ _ _ _ _ _ _ _ _ _ _ _ _ _ _ _ _ _ _ _ _ _ _ _ _ _ _ _ _ _ _ _ _ _ _ _ _ _ _ _ _ _ _ _ _ _ _ _ _ _ _ _ _ _ _ _ _ _ _ _ _ _ _ _ _ _ _ _ _ _ ?_
        intro v121 v122 v123 v124 v125 v126 v127 v128 v129 v130 w5 hw5
        have hh5 := Lib.hid (show w5.heap[(wr).heap.size]? = some (.cells #[.int .u8 (ch.toNat : Int), .int .i64 (n : Int), .bool ((!BA && (!PA || BB || PB)) && (!(!BB && (!PB || BA || PA)) || PB)), .bool (!BB && (!PB || BA || PA))] 74 (0, 0)) from by rw [hw5]; exact heap_setCell_same _ _ 2 _ _ _ hh.out)
        have hb6 := Lib.hid (show Below _ _ w5 from by rw [hw5]; exact hb5.out.setCell (p := ⟨(wr).heap.size, 2, none⟩) (by simp; omega) _)
        obtain ⟨x0, x1, x2, x3⟩ := four hh5.out
        have xf := Lib.frozen_of_heap hh5.out 3
        clear hw5 y0 y1 y2 y3 yf
        go_upto_region 16 with fail
        refine kind_closes _ _ PA PB _ _ (wr).heap.size _ w5 hPA hPB x3 xf _ _ _ _ _ _ _ _ _ _ _ _ _ _ _ _ _ _ _ _ _ _ _ _ _ _ _ _ _ _ _ _ _ _ _ _ _ _ _ _ _ _ _ _ _ _ _ _ _ _ _ _ _ _ _ _ _ _ _ _ _ _ _ _ _ _ _ _ _ _ _ _ _ _ _ _ _ _ _ _ _ _ _ _ _ _ _ _ _ _ _ _ _ _ _ _ _ _ _ _ _ _ _ _ _ _ _ _ _ _ _ _ _ _ _ _ _ _ _ _ _ _ _ _ _ _ _ _ _ _ _ _ _ _ _ _ _ _ _ _ _ ?_
        intro v131 v132 v133 v134 v135 v136 v137 v138 v139 v140 w6 hw6
        have hh6 := Lib.hid (show w6.heap[(wr).heap.size]? = some (.cells #[.int .u8 (ch.toNat : Int), .int .i64 (n : Int), .bool ((!BA && (!PA || BB || PB)) && (!(!BB && (!PB || BA || PA)) || PB)), .bool ((!BB && (!PB || BA || PA)) && (!(!BA && (!PA || BB || PB)) || PA))] 74 (0, 0)) from by rw [hw6]; exact heap_setCell_same _ _ 3 _ _ _ hh5.out)
        have hb7 := Lib.hid (show Below _ _ w6 from by rw [hw6]; exact hb6.out.setCell (p := ⟨(wr).heap.size, 3, none⟩) (by simp; omega) _)
        clear hw6 x0 x1 x2 x3 xf
        obtain ⟨z0, z1, z2, z3⟩ := four hh6.out
        obtain ⟨k0, k1, k2, k3, k4, k5⟩ := hst.out _ hb7.out
        clear hst
        go_upto_region 17 with fail
        refine kind_last w.heap.size (wr).heap.size k n ch _ _ w6 (by omega) z0 z1 z2 z3 k0 k1 k2 k3 k4 _ _ _ _ _ _ _ _ _ _ _ _ _ _ _ _ _ _ _ _ _ _ _ _ _ _ _ _ _ _ _ _ _ _ _ _ _ _ _ _ _ _ _ _ _ _ _ _ _ _ _ _ _ _ _ _ _ _ _ _ _ _ _ _ _ _ _ _ _ _ _ _ _ _ _ _ _ _ _ _ _ _ _ _ _ _ _ _ _ _ _ _ _ _ _ _ _ _ _ _ _ _ _ _ _ _ _ _ _ _ _ _ _ _ _ _ _ _ _ _ _ _ _ _ _ _ _ _ _ _ _ _ _ _ _ _ _ _ _ _ _ _ ?_
        intro v141 v142 v143 v144 wq hwq
        rw [hwq]
        clear hwq wq z0 z1 z2 z3
        try clear hix
        try clear hne1
        try clear hne2
        try clear hnx
        try clear g1
        try clear g2
        try clear hBA
        try clear hBB
        try clear hPA
        try clear hPB
        try clear hTl
        try clear hlt
        try clear hsz
        try clear hix1
        try clear hpr
        try clear hp
        try clear hkn
        try clear hk1
        try clear hg1
        try clear hg0
        try clear q1
        go_wp2_with fail
        exact bodyPost_ret (v := .tuple #[.agg #[.int .u8 (ch.toNat : Int), .int .i64 (n : Int), .bool ((!BA && (!PA || BB || PB)) && (!(!BB && (!PB || BA || PA)) || PB)), .bool ((!BB && (!PB || BA || PA)) && (!(!BA && (!PA || BB || PB)) || PA))], .int .i64 ((k + n : Nat) : Int), .bool true]) (by rw [results_cell_tmp2 rfl]; go_simp) rfl ⟨by rw [ex, ey]; rfl, blk_done hb7.out _ _ _ _⟩
end Go.Proofs.YtkfhkfagmokjpaaGreatDoor

namespace Go.Proofs.YtkfhkfagmokjpaaGreatDoor
open Go.RowKit

set_option maxHeartbeats 4000000 in
set_option maxRecDepth 100000 in
theorem rkind_off (l : List UInt8) (at_ : Int) (hs : l.length ≤ 1000000000000) (ho : at_ < 0 ∨ (0 ≤ at_ ∧ (l.length : Int) ≤ at_) ∨ (0 ≤ at_ ∧ ∃ h : at_.toNat < l.length, ((l[at_.toNat].toNat : Int) == 42) = false ∧ ((l[at_.toNat].toNat : Int) == 95) = false) ∨
      (0 < at_ ∧ ∃ h : at_.toNat < l.length, ((((l[at_.toNat].toNat : Int) == 42) = true) ∨ (((l[at_.toNat].toNat : Int) == 42) = false ∧ ((l[at_.toNat].toNat : Int) == 95) = true)) ∧ ((l[at_.toNat - 1].toNat : Int) == (l[at_.toNat].toNat : Int)) = true)) (w : World) :
    Calls Tryz.prog 31 #[.string (bs l), .int .i64 at_] w fun e w' => e = .returned (kindV none) ∧ Below w.heap.size w w' := by
  have hsz := bs_size l
  have hbz := fun nq => below_drewN (Below.refl (w.alloc (.cells #[.int .u8 0, .int .i64 0, .bool false, .bool false] 74)).heap.size (w.alloc (.cells #[.int .u8 0, .int .i64 0, .bool false, .bool false] 74))) nq
  replace hbz := Lib.hid hbz
  rcases ho with h | ⟨h0, h⟩ | ⟨h0, hl, h1, h2⟩ | ⟨h0, hl, h1, h2⟩
  · have d1 : decide (at_ < 0) = true := decide_eq_true h
    go_enter Tryz.func31, Tryz.ntmps31
    go_wp2_with fail
    go_quiet (fail)
    go_wp2_with fail
    exact bodyPost_ret (v := kindV none) (by rw [results_cell_tmp2 rfl]; go_simp; rfl) rfl ⟨rfl, blk_done (hbz.out nq) _ _ _ _⟩
  · have d1 : decide (at_ < 0) = false := decide_eq_false (by omega)
    have d2 : decide (((l.length : Nat) : Int) ≤ at_) = true := decide_eq_true h
    go_enter Tryz.func31, Tryz.ntmps31
    go_wp2_with fail
    go_quiet (fail)
    go_wp2_with fail
    exact bodyPost_ret (v := kindV none) (by rw [results_cell_tmp2 rfl]; go_simp; rfl) rfl ⟨rfl, blk_done (hbz.out nq) _ _ _ _⟩
  · have d1 : decide (at_ < 0) = false := decide_eq_false (by omega)
    have d2 : decide (((l.length : Nat) : Int) ≤ at_) = false := decide_eq_false (by omega)
    have hix := run_byte_at (i := at_.toNat) (v := at_) (S := l) hl (by omega)
    have e1 : ((l[at_.toNat].toNat : Int) != 42) = true := by simp only [bne, h1]; rfl
    have e2 : ((l[at_.toNat].toNat : Int) != 95) = true := by simp only [bne, h2]; rfl
    generalize l[at_.toNat] = ch at *
    go_enter Tryz.func31, Tryz.ntmps31
    go_wp2_with fail
    go_quiet (fail)
    go_wp2_with fail
    exact bodyPost_ret (v := kindV none) (by rw [results_cell_tmp2 rfl]; go_simp; rfl) rfl ⟨rfl, blk_done (hbz.out nq) _ _ _ _⟩
  · have d1 : decide (at_ < 0) = false := decide_eq_false (by omega)
    have d2 : decide (((l.length : Nat) : Int) ≤ at_) = false := decide_eq_false (by omega)
    have d3 : decide (0 < at_) = true := decide_eq_true h0
    have hix := run_byte_at (i := at_.toNat) (v := at_) (S := l) hl (by omega)
    have hix1 := run_byte_at (i := at_.toNat - 1) (v := at_ - 1) (S := l) (by omega) (by omega)
    have e1 : ((l[at_.toNat].toNat : Int) != 42) = !((l[at_.toNat].toNat : Int) == 42) := rfl
    have e2 : ((l[at_.toNat].toNat : Int) != 95) = !((l[at_.toNat].toNat : Int) == 95) := rfl
    generalize l[at_.toNat] = ch at *
    generalize l[at_.toNat - 1] = cp at *
    rcases h1 with h1 | ⟨h1, h1'⟩
    all_goals
      go_enter Tryz.func31, Tryz.ntmps31
      go_wp2_with fail
      go_quiet (fail)
      go_wp2_with fail
      exact bodyPost_ret (v := kindV none) (by rw [results_cell_tmp2 rfl]; go_simp; rfl) rfl ⟨rfl, blk_done (hbz.out nq) _ _ _ _⟩

theorem sign_test {b : UInt8} (h : b = 42 ∨ b = 95) : (((b.toNat : Int) == 42) = true ∧ ((b.toNat : Int) == 95) = false ∧ b ≠ 95) ∨ (((b.toNat : Int) == 42) = false ∧ ((b.toNat : Int) == 95) = true ∧ b = 95) := by
  rcases h with h | h
  · subst h; exact .inl ⟨rfl, rfl, by decide⟩
  · subst h; exact .inr ⟨rfl, rfl, rfl⟩
theorem rkind_any (l : List UInt8) (at_ : Int) (hs : l.length ≤ 1000000000000) (w : World) :
    Calls Tryz.prog 31 #[.string (bs l), .int .i64 at_] w fun e w' => e = .returned (kindV (Em.kind l at_)) ∧ Below w.heap.size w w' := by
  by_cases h0 : at_ < 0
  · rw [Em.kind_off (Em.starts_no (.inl h0))]
    exact rkind_off l at_ hs (.inl h0) w
  · by_cases h1 : (l.length : Int) ≤ at_
    · rw [Em.kind_off (Em.starts_no (.inr (.inl h1)))]
      exact rkind_off l at_ hs (.inr (.inl ⟨by omega, h1⟩)) w
    · obtain ⟨k, rfl⟩ : ∃ k : Nat, at_ = (k : Int) := ⟨at_.toNat, by omega⟩
      have hk : k < l.length := by omega
      by_cases h2 : l[k] = 42 ∨ l[k] = 95
      · have hsg := sign_test h2
        by_cases h3 : 0 < k ∧ l[k - 1] = l[k]
        · rw [Em.kind_off (Em.starts_no (l := l) (at_ := (k : Int)) (.inr (.inr (.inr ⟨by omega, hk, h3.2⟩))))]
          refine rkind_off l (k : Int) hs (.inr (.inr (.inr ⟨by omega, hk, ?_, byte_same h3.2⟩))) w
          rcases hsg with ⟨g, _⟩ | ⟨g, g', _⟩
          · exact .inl g
          · exact .inr ⟨g, g'⟩
        · rcases Nat.eq_zero_or_pos k with hz | hz
          · rw [Em.kind_on hk (Em.starts_yes hk h2 (.inl hz))]
            rcases hsg with g | g
            · exact rkind_on_z42 l k hk hs g (by omega) w
            · exact rkind_on_z95 l k hk hs g (by omega) w
          · have hne : l[k - 1] ≠ l[k] := fun h => h3 ⟨hz, h⟩
            rw [Em.kind_on hk (Em.starts_yes hk h2 (.inr ⟨by omega, hne⟩))]
            rcases hsg with g | g
            · exact rkind_on_p42 l k hk hs g (by omega) (by omega) (byte_diff hne) w
            · exact rkind_on_p95 l k hk hs g (by omega) (by omega) (byte_diff hne) w
      · have hn : l[k] ≠ 42 ∧ l[k] ≠ 95 := ⟨fun h => h2 (.inl h), fun h => h2 (.inr h)⟩
        rw [Em.kind_off (Em.starts_no (l := l) (at_ := (k : Int)) (.inr (.inr (.inl ⟨hk, hn⟩))))]
        exact rkind_off l (k : Int) hs (.inr (.inr (.inl ⟨by omega, hk, byte_ne (n := 42) (by omega) hn.1, byte_ne (n := 95) (by omega) hn.2⟩))) w
end Go.Proofs.YtkfhkfagmokjpaaGreatDoor

section
namespace Go.Proofs.YtkfhkfagmokjpaaGreatDoor
open Go.RowKit

theorem pheldEI : EI Tryz.prog 57 96 4 24 := EI.mk' Tryz.underlying57 (z := .agg #[.int .u8 0, .int .i64 0, .bool false, .bool false]) (by kernel_rfl) rfl (by omega)
theorem made_runs (n : Nat) : (madeCells #[.int .u8 0, .int .i64 0, .bool false, .bool false] (n * 4)).toList = acells (List.replicate n Em.none_) := by
  apply List.ext_getElem?
  intro j
  by_cases hj : j < n * 4
  · have hk : j / 4 < (List.replicate n Em.none_).length := by rw [List.length_replicate]; omega
    have h1 := flat_at (f := acell) (m := 4) (fun _ => rfl) (List.replicate n Em.none_) (j / 4) (j % 4) hk (by omega)
    rw [show j / 4 * 4 + j % 4 = j by omega] at h1
    rw [show acells (List.replicate n Em.none_) = (List.replicate n Em.none_).flatMap acell from rfl, h1, List.getElem_replicate]
    simp only [madeCells, Array.toList_map, Array.toList_range, List.getElem?_map, List.getElem?_range hj, Option.map_some]
    have h4 : j % 4 = 0 ∨ j % 4 = 1 ∨ j % 4 = 2 ∨ j % 4 = 3 := by omega
    rcases h4 with h | h | h | h <;> (simp only [List.size_toArray, List.length_cons, List.length_nil, h]; rfl)
  · rw [List.getElem?_eq_none (by simp [madeCells]; omega), List.getElem?_eq_none (by rw [acells_len, List.length_replicate]; omega)]
/-- a run set -/
theorem acells_set (X : List Em.R) (r : Em.R) : ∀ (k : Nat), k < X.length → ((((acells X).set (k * 4) (.int .u8 (r.ch.toNat : Int))).set (k * 4 + 1) (.int .i64 r.n)).set (k * 4 + 2) (.bool r.o)).set (k * 4 + 3) (.bool r.c) = acells (X.set k r) := by
  induction X with
  | nil => intro k hk; simp at hk
  | cons x X ih =>
    intro k hk
    cases k with
    | zero => rfl
    | succ k =>
      have := ih k (by simpa using hk)
      rw [List.set_cons_succ, show acells (x :: X.set k r) = acell x ++ acells (X.set k r) from rfl, ← this, show acells (x :: X) = acell x ++ acells X from rfl]
      have h4 : (acell x).length = 4 := rfl
      rw [List.set_append_right _ _ (by rw [h4]; omega), List.set_append_right _ _ (by rw [h4]; omega), List.set_append_right _ _ (by rw [h4]; omega), List.set_append_right _ _ (by rw [h4]; omega), h4,
        show (k + 1) * 4 - 4 = k * 4 by omega, show (k + 1) * 4 + 1 - 4 = k * 4 + 1 by omega, show (k + 1) * 4 + 2 - 4 = k * 4 + 2 by omega, show (k + 1) * 4 + 3 - 4 = k * 4 + 3 by omega]
/-- the first ones held -/
def mixH (l : List Em.R) (k : Nat) : List Em.R := (Em.hold l).take k ++ List.replicate (l.length - k) Em.none_
theorem hold_len (l : List Em.R) : (Em.hold l).length = l.length := by simp [Em.hold]
theorem mixH_len {l : List Em.R} {k : Nat} (h : k ≤ l.length) : (mixH l k).length = l.length := by simp [mixH, hold_len]; omega
theorem mixH_zero (l : List Em.R) : mixH l 0 = List.replicate l.length Em.none_ := by simp [mixH]
theorem mixH_all (l : List Em.R) : mixH l l.length = Em.hold l := by
  unfold mixH
  rw [List.take_of_length_le (by rw [hold_len]; exact Nat.le_refl _), Nat.sub_self]; simp
theorem mixH_set {l : List Em.R} {k : Nat} (h : k < l.length) : (mixH l k).set k ⟨l[k].ch, Em.held l[k].n, l[k].o, l[k].c⟩ = mixH l (k + 1) := by
  unfold mixH
  have hh : k < (Em.hold l).length := by rw [hold_len]; exact h
  obtain ⟨m, hm⟩ : ∃ m, l.length - k = m + 1 := ⟨l.length - k - 1, by omega⟩
  have hl : ((Em.hold l).take k).length = k := by rw [List.length_take]; omega
  rw [List.set_append_right _ _ (by omega), hl, Nat.sub_self, hm, List.replicate_succ, List.set_cons_zero, show l.length - (k + 1) = m by omega, List.take_succ_eq_append_getElem hh, List.append_assoc]
  simp [Em.hold]
/-- four cells set -/
theorem own_set4 {w : World} {B g n c : Nat} {X : List Em.R} {E : TypeId} (h : w.ownsRow B E 4 (.slice (some ⟨g, 0, none⟩) n c) n (acells X)) (r : Em.R) {k : Nat} (hk : k < X.length) :
    ((((w.setCell ⟨g, k * 4, none⟩ (.int .u8 (r.ch.toNat : Int))).setCell ⟨g, k * 4 + 1, none⟩ (.int .i64 r.n)).setCell ⟨g, k * 4 + 2, none⟩ (.bool r.o)).setCell ⟨g, k * 4 + 3, none⟩ (.bool r.c)).ownsRow B E 4 (.slice (some ⟨g, 0, none⟩) n c) n (acells (X.set k r)) := by
  have := ((((h.stored (k * 4) (.int .u8 (r.ch.toNat : Int))).1.stored (k * 4 + 1) (.int .i64 r.n)).1.stored (k * 4 + 2) (.bool r.o)).1.stored (k * 4 + 3) (.bool r.c)).1
  rwa [acells_set X r k hk] at this
theorem own_cell4 {w : World} {B g n c : Nat} {X : List Em.R} {E : TypeId} (h : w.ownsRow B E 4 (.slice (some ⟨g, 0, none⟩) n c) n (acells X)) {k : Nat} (hk : k < X.length) :
    w.cell? ⟨g, k * 4, none⟩ = some (.int .u8 (X[k].ch.toNat : Int)) ∧ w.cell? ⟨g, k * 4 + 1, none⟩ = some (.int .i64 X[k].n) ∧ w.cell? ⟨g, k * 4 + 2, none⟩ = some (.bool X[k].o) ∧ w.cell? ⟨g, k * 4 + 3, none⟩ = some (.bool X[k].c) := by
  have hat := fun i (hi : i < 4) => flat_at (f := acell) (m := 4) (fun _ => rfl) X k i hk hi
  have hc := fun j u hu => h.cells (g := g) rfl j u hu
  have ha : ∀ j, (⟨g, 0, none⟩ : Addr).add j = ⟨g, j, none⟩ := fun j => by unfold Addr.add; split <;> simp_all
  simp only [ha] at hc
  exact ⟨hc _ _ ((hat 0 (by omega)).trans rfl), hc _ _ ((hat 1 (by omega)).trans rfl), hc _ _ ((hat 2 (by omega)).trans rfl), hc _ _ ((hat 3 (by omega)).trans rfl)⟩
theorem below_set4 {B : Nat} {a w : World} {g j : Nat} (h : Below B a w) (hg : B ≤ g) (p q r s : Value) : Below B a ((((w.setCell ⟨g, j, none⟩ p).setCell ⟨g, j + 1, none⟩ q).setCell ⟨g, j + 2, none⟩ r).setCell ⟨g, j + 3, none⟩ s) :=
  (((h.setCell (p := ⟨g, j, none⟩) hg _).setCell (p := ⟨g, j + 1, none⟩) hg _).setCell (p := ⟨g, j + 2, none⟩) hg _).setCell (p := ⟨g, j + 3, none⟩) hg _

set_option maxHeartbeats 4000000 in
set_option maxRecDepth 100000 in
theorem pheld_any (l : List Em.R) (A : Option Addr) (c : Nat) (w : World) (h : Row w w.heap.size 4 A l.length (acells l)) (hl : l.length ≤ 4000000) :
    Calls Tryz.prog 68 #[.slice A l.length c] w fun e w' => (∃ v, e = .returned v ∧ w'.ownsRow w.heap.size 96 4 v l.length (acells (Em.hold l))) ∧ Below w.heap.size w w' := by
  have hR := Lib.hid h
  clear h
  have hmk := fun w => run_mk pheldEI (z := .agg #[.int .u8 0, .int .i64 0, .bool false, .bool false]) (by kernel_rfl) l.length (by omega) (by omega) w
  have hown0 := Lib.hid (own_mk w w.heap.size 4 l.length 96 #[.int .u8 0, .int .i64 0, .bool false, .bool false] (Nat.le_refl _) (by omega))
  replace hown0 := Lib.hid (by have := hown0.out; rwa [made_runs, ← mixH_zero] at this)
  simp only [Value.cells] at hmk
  generalize madeCells _ (l.length * 4) = C at *
  have hb0 := Lib.hid (ext_alloc w (.cells C 96))
  go_enter Tryz.func68, Tryz.ntmps68
  go_wp2_with fail
  go_loopw [11] (fun i wr => ∃ k : Nat, k ≤ l.length ∧ i = .int .i64 k ∧ Hid (wr.ownsRow w.heap.size 96 4 (.slice (some ⟨w.heap.size, 0, none⟩) l.length l.length) l.length (acells (mixH l k))) ∧ Below w.heap.size w wr) (fun i _ => l.length - (intOf i).toNat)
  case atStart => exact ⟨0, Nat.zero_le _, rfl, hown0, hb0.out⟩
  case round =>
    obtain ⟨k, hk, rfl, hown, hb⟩ := hrel
    clear hown0 hb0 hmk
    have hz := hb.size
    by_cases hkl : k < l.length
    · obtain ⟨b, o, rfl, hbb, hc⟩ := run_cell hR.out (by omega)
      obtain ⟨c0, c1, c2, c3⟩ := hc k hkl
      have d0 := (hb.cell (p := ⟨b, o + k * 4, none⟩) hbb).trans c0
      have d1 := (hb.cell (p := ⟨b, o + k * 4 + 1, none⟩) hbb).trans c1
      have d2 := (hb.cell (p := ⟨b, o + k * 4 + 2, none⟩) hbb).trans c2
      have d3 := (hb.cell (p := ⟨b, o + k * 4 + 3, none⟩) hbb).trans c3
      clear hc c0 c1 c2 c3
      obtain ⟨X, hX, hXs, hkX⟩ : ∃ X : List Em.R, mixH l k = X ∧ X.set k ⟨l[k].ch, Em.held l[k].n, l[k].o, l[k].c⟩ = mixH l (k + 1) ∧ k < X.length := ⟨_, rfl, mixH_set hkl, by rw [mixH_len (by omega)]; exact hkl⟩
      rw [hX] at hown
      clear hX
      replace hXs := Lib.hid hXs
      have hlt := hown.out.lt _ rfl
      go_upto_region 5 with fail
      generalize hw2 : World.alloc wr _ = w2
      have hb2 : Below wr.heap.size wr w2 := by rw [← hw2]; exact ext_alloc _ _
      have hloc : w2.heap[wr.heap.size]? = some (.cells #[.int .u8 (l[k].ch.toNat : Int), .int .i64 l[k].n, .bool l[k].o, .bool l[k].c] 96 (0, 0)) := by rw [← hw2]; exact heap_alloc_new _ _
      clear hw2
      have hown2 := own_below hown.out hb2
      have hB2 := hb.trans (hb2.mono hz)
      obtain ⟨y0, y1, y2, y3⟩ := four hloc
      have hfz := blk_free hloc
      obtain ⟨kk, hkk⟩ : ∃ kk : Int, kk = (if l[k].n < 0 then 0 else l[k].n) := ⟨_, rfl⟩
      have hk1 : (if l[k].n < 0 then 0 else l[k].n) = kk := hkk.symm
      have hk2 : max l[k].n 0 = kk := by rw [hkk]; split <;> omega
      have hk3 : (if (100 : Int) < kk then (100 : Int) else kk) = ((Em.held l[k].n : Nat) : Int) := by unfold Em.held; rw [hkk]; split <;> split <;> omega
      have hk4 : min kk 100 = ((Em.held l[k].n : Nat) : Int) := by unfold Em.held; rw [hkk]; split <;> omega
      have hset := fun (v : Value) => heap_setCell_same w2 wr.heap.size 1 _ _ v hloc
      replace hset := Lib.hid hset
      replace hloc := Lib.hid hloc
      replace hown2 := Lib.hid hown2
      replace hB2 := Lib.hid hB2
      clear hkk d0 d1 d2 d3
      go_upto_region 6 with fail
      generalize hw3 : World.setCell w2 _ _ = w3
      have hloc3 : w3.heap[wr.heap.size]? = some (.cells #[.int .u8 (l[k].ch.toNat : Int), .int .i64 (Em.held l[k].n : Nat), .bool l[k].o, .bool l[k].c] 96 (0, 0)) := by rw [← hw3]; exact hset.out _
      have hown3 := Lib.hid (show w3.ownsRow w.heap.size 96 4 (.slice (some ⟨w.heap.size, 0, none⟩) l.length l.length) l.length (acells X) from by
        rw [← hw3]
        exact World.ownsRow.kept hown2.out (grown_set w2 ⟨wr.heap.size, 1, none⟩ _) (.inr fun e => by
          have e2 : w.heap.size = wr.heap.size := Option.some.inj e
          omega))
      have hB3 : Below w.heap.size w w3 := by rw [← hw3]; exact hB2.out.setCell (p := ⟨wr.heap.size, 1, none⟩) hz _
      clear hw3 hset hown2 hB2 y0 y1 y2 y3 hfz hloc hown hb hb2
      obtain ⟨y0, y1, y2, y3⟩ := four hloc3
      obtain ⟨x0, x1, x2, x3⟩ := own_cell4 hown3.out hkX
      have hfx := fun j => hown3.out.frozenAt j
      have hset4 := Lib.hid (own_set4 hown3.out ⟨l[k].ch, Em.held l[k].n, l[k].o, l[k].c⟩ hkX)
      have hbel4 := Lib.hid (below_set4 (j := k * 4) hB3 (Nat.le_refl w.heap.size) (.int .u8 (l[k].ch.toNat : Int)) (.int .i64 (Em.held l[k].n : Nat)) (.bool l[k].o) (.bool l[k].c))
      clear hloc3 hown3 hB3
      go_wp2_with fail
      go_roundw
      case rel => exact ⟨k + 1, hkl, by go_num, Lib.hid (by rw [← hXs.out]; exact hset4.out), hbel4.out⟩
      case measure => simp [intOf]; omega
    · have hke : k = l.length := by omega
      subst hke
      rw [mixH_all] at hown
      go_wp2_with fail
      go_ret
      exact ⟨⟨_, rfl, hown.out⟩, hb⟩
end Go.Proofs.YtkfhkfagmokjpaaGreatDoor
end

section
namespace Go.Proofs.YtkfhkfagmokjpaaGreatDoor
open Go.RowKit
attribute [local go_sem] canOp readsAs readUpon

theorem own_int {w : World} {B g n c : Nat} {E : TypeId} {L : List Nat} (h : w.ownsRow B E 1 (.slice (some ⟨g, 0, none⟩) n c) n (lcells L)) {k : Nat} (hk : k < L.length) : w.cell? ⟨g, k, none⟩ = some (.int .i64 (L[k] : Int)) := by
  have := h.cells (g := g) rfl k _ (lcells_at hk)
  rwa [show (⟨g, 0, none⟩ : Addr).add k = ⟨g, k, none⟩ from by unfold Addr.add; split <;> simp_all] at this
/-- what is told of the nearest one -/
def NearV (O : List Nat) (l : List Em.R) (c : Nat) : Option Nat → Prop
  | some i => ∃ hi : i < O.length, Em.fitP (Em.get l O[i]) (Em.get l c) = true ∧ ∀ k (hk : k < O.length), i < k → Em.fitP (Em.get l O[k]) (Em.get l c) = false
  | none => ∀ j ∈ O, Em.fitP (Em.get l j) (Em.get l c) = false
def nearV : Option Nat → Value
  | some i => .tuple #[.int .i64 (i : Int), .bool true]
  | none => .tuple #[.int .i64 0, .bool false]

/-- the search stands at a place -/
def NearAt (O : List Nat) (l : List Em.R) (c : Nat) (v : Value) : Prop := ∃ (z : Int) (m : Nat), v = .int .i64 z ∧ z = (m : Int) - 1 ∧ m ≤ O.length ∧ Hid (∀ k (hk : k < O.length), m ≤ k → Em.fitP (Em.get l O[k]) (Em.get l c) = false)

set_option maxHeartbeats 4000000 in
set_option maxRecDepth 100000 in
theorem pnearest_any {B b : Nat} {x : Option Part} {v : Vs} {l : List Em.R} {L O N : List Nat} {P : List (Nat × Nat × Nat)} {w : World} (hM : PM B b x v l L O N P w) (c : Nat) (hc : c < l.length) (hl : l.length ≤ 4000000) (hH : Em.Held l)
    (hO : O.length ≤ 4000000) (hOl : ∀ j ∈ O, j < l.length) (hs : O.Pairwise (· < ·)) (hNl : N.length = 1536) (hN : ∀ j ∈ O, j < Em.lf N (Em.sortN (Em.get l c)) → Em.fitP (Em.get l j) (Em.get l c) = false) :
    Calls Tryz.prog 88 #[.pointer (some ⟨b, 0, none⟩), .int .i64 (c : Int)] w fun e w' => ∃ r, e = .returned (nearV r) ∧ NearV O l c r ∧ Below B w w' ∧ PM B b x v l L O (if r = none then N.set (Em.sortN (Em.get l c)) c else N) P w' := by
  obtain ⟨hB, hbw, hfz, m0, m1, m2, m3, m4⟩ := hM.blk
  obtain ⟨gr, cr, hvr, hcr, hBr, hgr⟩ := own_some hM.rowr (by omega)
  obtain ⟨gn, cn, hvn, hcn, hBn, hgn⟩ := own_some hM.rown (by omega)
  obtain ⟨A, co, hvo, hco⟩ := own_shape hM.rowo
  have hgc : Em.get l c = l[c] := Em.get_at hc
  have q1 := fun w => psort_any l[c] (hH _ (List.getElem_mem hc)) w
  obtain ⟨s, hsd⟩ : ∃ s, s = Em.sortN (Em.get l c) := ⟨_, rfl⟩
  have hs6 : s < 1536 := by rw [hsd]; exact Em.sortN_lt _
  rw [← hgc, ← hsd] at q1
  have hM0 := Lib.hid hM
  have hvn0 := Lib.hid hvn
  have hvo0 := Lib.hid hvo
  have hvr0 := Lib.hid hvr
  have hrr := hM.rowr
  rw [hvr] at hrr
  obtain ⟨x0, x1, x2, x3⟩ := own_cell4 hrr hc
  rw [hvr] at m0
  rw [hvn] at m3
  rw [hvo] at m2
  unfold aval at q1
  rw [hgc] at q1
  have hbl := Lib.hid (ext_alloc w (.cells #[.int .u8 (l[c].ch.toNat : Int), .int .i64 l[c].n, .bool l[c].o, .bool l[c].c] 96))
  have hloc := Lib.hid (heap_alloc_new w (.cells #[.int .u8 (l[c].ch.toNat : Int), .int .i64 l[c].n, .bool l[c].o, .bool l[c].c] 96))
  have hH0 := Lib.hid hH
  replace hs := Lib.hid hs
  replace hN := Lib.hid hN
  replace hOl := Lib.hid hOl
  replace hsd := Lib.hid hsd
  replace hgc := Lib.hid hgc
  clear hrr hM m1 m4 hvr hvn hvo hH
  go_enter Tryz.func88, Tryz.ntmps88
  go_wp2_with fail
  refine (q1 _).mono ?_
  rintro e w1 ⟨rfl, hb1⟩
  have hloc1 := (keep hloc.out hb1).1
  have hw1 := ext_trans hbl.out hb1
  have hM1 := hM0.out.ext hw1
  clear hM0 hbl hloc hb1 q1 m0 m2 m3 x0 x1 x2 x3 hfz
  have hz1 := hw1.size
  obtain ⟨_, hbw1, _, m0, m1, m2, m3, m4⟩ := hM1.blk
  rw [hvr0.out] at m0
  rw [hvn0.out] at m3
  rw [hvo0.out] at m2
  replace hw1 := Lib.hid hw1
  replace hM1 := Lib.hid hM1
  replace hloc1 := Lib.hid hloc1
  clear m1 m4
  go_wp2_with fail
  go_loopw [8] (fun u wr => NearAt O l c u ∧ Hid (Below w1.heap.size w1 wr)) (fun u _ => (intOf u + 1).toNat)
  case atStart => exact ⟨⟨(O.length : Int) - 1, O.length, rfl, rfl, Nat.le_refl _, Lib.hid fun k hk h => by omega⟩, Lib.hid (Below.refl _ _)⟩
  case round =>
    obtain ⟨⟨z, m, rfl, hz, hm, hno⟩, hq⟩ := hrel
    clear m0 m2 m3
    have hMr := hM1.out.ext hq.out
    obtain ⟨_, hbwr, _, m0, m1, m2, m3, m4⟩ := hMr.blk
    rw [hvr0.out] at m0
    rw [hvn0.out] at m3
    rw [hvo0.out] at m2
    have hnn := hMr.rown
    rw [hvn0.out] at hnn
    have n0 := own_int hnn (k := s) (by omega)
    have nf := fun n => (own_below hnn (below_drewN (Below.refl wr.heap.size wr) n)).frozenAt s
    have hlfs : Em.lf N s = N[s]'(by omega) := Em.lf_at (by omega)
    have hstN := Lib.hid (fun n => (hMr.ext (below_drewN (Below.refl wr.heap.size wr) n)).setN hvn0.out s c)
    have hwr := ext_trans hw1.out (show Below w1.heap.size w1 wr from hq.out)
    have hstB := Lib.hid (fun n => (below_drewN (hwr.mono (Nat.le_trans hB (Nat.le_of_lt hbw))) n).setCell (p := ⟨gn, s, none⟩) hBn (.int .i64 (c : Int)))
    have hBr0 := Lib.hid (hwr.mono (Nat.le_trans hB (Nat.le_of_lt hbw)))
    have hgnr : gn < wr.heap.size := Nat.lt_of_lt_of_le hgn hwr.size
    replace hMr := Lib.hid hMr
    clear hnn hwr m1 m4
    rcases Nat.eq_zero_or_pos m with rfl | hmp
    · obtain rfl : z = -1 := by omega
      have hall : Hid (NearV O l c none) := Lib.hid fun j hj => by
        obtain ⟨k, hk, rfl⟩ := List.getElem_of_mem hj
        exact hno.out k hk (Nat.zero_le _)
      clear hno hz hN m2 hlfs
      go_wp2_with fail
      go_quiet (fail)
      go_wp2_with fail
      go_ret2
      exact ⟨none, rfl, hall.out, hstB.out nq, by rw [if_pos rfl, ← hsd.out]; exact hstN.out nq⟩
    · obtain ⟨j, rfl⟩ : ∃ j, m = j + 1 := ⟨m - 1, by omega⟩
      obtain rfl : z = (j : Int) := by omega
      have hjO : j < O.length := by omega
      have hoo := hMr.out.rowo
      rw [hvo0.out] at hoo
      obtain ⟨go, rfl⟩ : ∃ g, A = some ⟨g, 0, none⟩ := by
        rcases hoo.2 with ⟨hv, h0⟩ | ⟨g, cap, cur, hv, _⟩
        · omega
        · injection hv with h1 _ _; exact ⟨g, h1⟩
      have o0 := own_int hoo hjO
      clear hoo
      obtain ⟨oj, hoj⟩ : ∃ o, o = O[j] := ⟨_, rfl⟩
      rw [← hoj] at o0
      have hojl : oj < l.length := by rw [hoj]; exact hOl.out _ (List.getElem_mem hjO)
      by_cases hge : N[s] ≤ oj
      · have d0 : decide ((N[s] : Int) ≤ (oj : Int)) = true := decide_eq_true (by omega)
        have d1 : decide (N[s] ≤ oj) = true := decide_eq_true hge
        have hrr := hMr.out.rowr
        rw [hvr0.out] at hrr
        obtain ⟨y0, y1, y2, y3⟩ := own_cell4 hrr hojl
        clear hrr
        obtain ⟨z0, z1, z2, z3⟩ := four (keep hloc1.out hq.out).1
        have hgo : Em.get l oj = l[oj] := Em.get_at hojl
        have q := fun w => pfit_any l[oj] l[c] (hH0.out _ (List.getElem_mem hojl)) (hH0.out _ (List.getElem_mem hc)) w
        obtain ⟨F, hF⟩ : ∃ F, F = Em.fitP l[oj] l[c] := ⟨_, rfl⟩
        have hFO : Hid (F = Em.fitP (Em.get l O[j]) (Em.get l c)) := Lib.hid (by rw [← hoj, hF, hgo, hgc.out])
        rw [← hF] at q
        unfold aval at q
        clear hF hgo hz hN hlfs hge
        replace hoj := Lib.hid hoj
        generalize N[s] = ns at *
        have hloc2 := (keep hloc1.out hq.out).1
        have hSd : Hid (∀ n u, Below (wr.drewN n).heap.size (wr.drewN n) u → (u.cell? ⟨b, 0, none⟩ = some (.slice (some ⟨gr, 0, none⟩) l.length cr) ∧ u.cell? ⟨b, 2, none⟩ = some (.slice (some ⟨go, 0, none⟩) O.length co) ∧ u.cell? ⟨go, j, none⟩ = some (.int .i64 (oj : Int))) ∧
            (u.cell? ⟨gr, oj * 4, none⟩ = some (.int .u8 (l[oj].ch.toNat : Int)) ∧ u.cell? ⟨gr, oj * 4 + 1, none⟩ = some (.int .i64 l[oj].n) ∧ u.cell? ⟨gr, oj * 4 + 2, none⟩ = some (.bool l[oj].o) ∧ u.cell? ⟨gr, oj * 4 + 3, none⟩ = some (.bool l[oj].c)) ∧
            (u.cell? ⟨w.heap.size, 0, none⟩ = some (.int .u8 (l[c].ch.toNat : Int)) ∧ u.cell? ⟨w.heap.size, 1, none⟩ = some (.int .i64 l[c].n) ∧ u.cell? ⟨w.heap.size, 2, none⟩ = some (.bool l[c].o) ∧ u.cell? ⟨w.heap.size, 3, none⟩ = some (.bool l[c].c))) := Lib.hid fun n u hu => by
          have hu2 : Below wr.heap.size wr u := ext_trans (below_drewN (Below.refl wr.heap.size wr) n) hu
          have hMu := hMr.out.ext hu2
          obtain ⟨_, _, _, m0, _, m2, _, _⟩ := hMu.blk
          have hrr := hMu.rowr
          have hoo := hMu.rowo
          rw [hvr0.out] at m0 hrr
          rw [hvo0.out] at m2 hoo
          exact ⟨⟨m0, m2, by rw [hoj.out]; exact own_int hoo hjO⟩, own_cell4 hrr hojl, four (keep hloc2 hu2).1⟩
        have hBr1 := Lib.hid (fun (n : Nat) => below_drewN hBr0.out n)
        have hMr1 := Lib.hid (fun (n : Nat) => hMr.out.ext (below_drewN (Below.refl wr.heap.size wr) n))
        clear hloc2 hstN hstB
        go_wp2_with fail
        go_quiet (fail)
        go_wp2_with fail
        clear m0 m2 m3 n0 o0 y0 y1 y2 y3 z0 z1 z2 z3
        replace hSd := Lib.hid (hSd.out nq)
        replace hBr1 := Lib.hid (hBr1.out nq)
        replace hMr1 := Lib.hid (hMr1.out nq)
        have hbn : b < (wr.drewN nq).heap.size := hbwr
        have hnr : w1.heap.size ≤ (wr.drewN nq).heap.size := hq.out.size
        have hqn := Lib.hid (below_drewN hq.out nq)
        generalize wr.drewN nq = wd at *
        have hS : Ext wd wd.drew := ext_drew wd
        obtain ⟨⟨m0, m2, o0⟩, ⟨y0, y1, y2, y3⟩, ⟨z0, z1, z2, z3⟩⟩ := hSd.out wd.drew hS
        refine wp_region_can ((true, 0) :: (true, 1) :: (true, 2) :: (true, 3) :: (true, 4) :: (true, 5) :: (true, 6) :: (true, 7) :: (true, 8) :: (true, 9) :: (true, 10) :: (true, 11) :: (true, 12) :: (true, 13) :: (false, 14) :: []) (Ext wd) hS (by kernel_rfl) (by kernel_rfl) (by kernel_rfl) (fun _ _ d _ _ h => by cases d <;> exact h) ?_
        iterate 14 (first | refine wpCan_move rfl ?_ | (refine wpCan_cons rfl ?_; intro K hK; go_simp; first | (refine hK _ _ _ ?_; clear hK K) | (refine ⟨fun w' hw' => by obtain ⟨⟨m0, m2, o0⟩, ⟨y0, y1, y2, y3⟩, ⟨z0, z1, z2, z3⟩⟩ := hSd.out w' hw'; go_simp, hK _ _ _ ?_⟩; clear hK K)))
        refine wpCan_cons rfl ?_
        intro K hK
        go_simp
        refine (q _).mono ?_
        rintro e w4 ⟨rfl, hb4⟩
        replace hb4 := ext_trans (ext_drew wd) hb4
        refine can_ext hb4 (hK _ _ _ ?_)
        clear hK K q
        refine wpCan_nil ?_
        have hB4 := Lib.hid (hBr1.out.trans (hb4.mono (Nat.le_trans (Nat.le_trans hB (Nat.le_of_lt hbw)) (Nat.le_trans hz1 hnr))))
        have hM4 := Lib.hid (hMr1.out.ext hb4)
        have hq4 := Lib.hid (show Below w1.heap.size w1 w4 from hqn.out.trans (hb4.mono hnr))
        clear hMr1 hBr1 hb4 m0 m2 o0 y0 y1 y2 y3 z0 z1 z2 z3 hSd hS
        cases F with
        | true =>
          have hsome : Hid (NearV O l c (some j)) := Lib.hid ⟨hjO, hFO.out.symm, fun k hk h => hno.out k hk h⟩
          go_wp2_with fail
          go_ret2
          exact ⟨some j, rfl, hsome.out, hB4.out, hM4.out⟩
        | false =>
          have hno2 : Hid (∀ k (hk : k < O.length), j ≤ k → Em.fitP (Em.get l O[k]) (Em.get l c) = false) := Lib.hid fun k hk h => by
            rcases Nat.lt_or_eq_of_le h with h1 | h1
            · exact hno.out k hk h1
            · subst h1; exact hFO.out.symm
          go_wp2_with fail
          go_roundw
          case rel => exact ⟨⟨(j : Int) - 1, j, rfl, rfl, by omega, hno2⟩, hq4⟩
          case measure => simp [intOf] <;> omega
      · have d0 : decide ((N[s] : Int) ≤ (oj : Int)) = false := decide_eq_false (by omega)
        have d1 : decide (N[s] ≤ oj) = false := decide_eq_false hge
        have hall : Hid (NearV O l c none) := Lib.hid fun i hi => by
          obtain ⟨k, hk, rfl⟩ := List.getElem_of_mem hi
          rcases Nat.lt_or_ge j k with h1 | h1
          · exact hno.out k hk h1
          · refine hN.out _ hi ?_
            rw [← hsd.out, hlfs]
            have : O[k] ≤ O[j] := by
              rcases Nat.lt_or_eq_of_le h1 with h2 | h2
              · exact Nat.le_of_lt (List.pairwise_iff_getElem.1 hs.out k j hk hjO h2)
              · subst h2; exact Nat.le_refl _
            omega
        clear hno hz hN hlfs hoj hge
        generalize N[s] = ns at *
        go_wp2_with fail
        go_quiet (fail)
        go_wp2_with fail
        go_ret2
        exact ⟨none, rfl, hall.out, hstB.out nq, by rw [if_pos rfl, ← hsd.out]; exact hstN.out nq⟩
end Go.Proofs.YtkfhkfagmokjpaaGreatDoor
end

section
namespace Go.Proofs.YtkfhkfagmokjpaaGreatDoor
open Go.RowKit

theorem ppairEI : EI Tryz.prog 92 98 3 24 := EI.mk' Tryz.underlying92 (z := .agg #[.int .i64 0, .int .i64 0, .int .i64 0]) (by kernel_rfl) rfl (by omega)
theorem pintEI : EI Tryz.prog 26 3 1 8 := EI.mk' Tryz.underlying26 (z := .int .i64 0) (by kernel_rfl) rfl (by omega)
theorem cut_int (g n c hi : Nat) {v : Int} (hv : v = (hi : Int)) (h2 : hi ≤ c) (w : World) :
    (Instr.slice 26 (.slice (some ⟨g, 0, none⟩) n c) none (some (.int .i64 v)) none).run Tryz.prog w = .ok (.slice (some ⟨g, 0, none⟩) hi c) w :=
  run_short (by kernel_rfl) 1 (fun w => by kernel_rfl) g n c hi hv h2 w
/-- the struct stays where a row of its own grows -/
theorem PM.atP {B b : Nat} {x : Option Part} {v : Vs} {l : List Em.R} {L O N : List Nat} {P : List (Nat × Nat × Nat)} {w u : World} (h : PM B b x v l L O N P w) (hg : w.grownBy u v.p.ownBlock) : (∀ j, u.frozen? ⟨b, j, none⟩ = false) ∧ u.cell? ⟨b, 4, none⟩ = some v.p := by
  obtain ⟨h1, h2, h3⟩ := Hp.base h (k := 0) rfl
  have h4 : u.heap[b]? = _ := (hg.block b h2 (fun e => by
    have := h.apart 5 0 _ _ b rfl rfl e.symm rfl
    cases this)).trans h3
  exact ⟨blk_free h4, blk_cell h4 4⟩
theorem PM.atO {B b : Nat} {x : Option Part} {v : Vs} {l : List Em.R} {L O N : List Nat} {P : List (Nat × Nat × Nat)} {w u : World} (h : PM B b x v l L O N P w) (hg : w.grownBy u v.o.ownBlock) : (∀ j, u.frozen? ⟨b, j, none⟩ = false) ∧ u.cell? ⟨b, 2, none⟩ = some v.o := by
  obtain ⟨h1, h2, h3⟩ := Hp.base h (k := 0) rfl
  have h4 : u.heap[b]? = _ := (hg.block b h2 (fun e => by
    have := h.apart 3 0 _ _ b rfl rfl e.symm rfl
    cases this)).trans h3
  exact ⟨blk_free h4, blk_cell h4 2⟩
/-- fewer are open -/
theorem PM.cutO {B b : Nat} {x : Option Part} {v : Vs} {l : List Em.R} {L O N : List Nat} {P : List (Nat × Nat × Nat)} {w : World} (h : PM B b x v l L O N P w) {g c : Nat} (hv : v.o = .slice (some ⟨g, 0, none⟩) O.length c) {k : Nat} (hk : k ≤ O.length) :
    PM B b x ⟨v.r, v.l, .slice (some ⟨g, 0, none⟩) k c, v.n, v.p⟩ l L (O.take k) N P (w.setCell ⟨b, 2, none⟩ (.slice (some ⟨g, 0, none⟩) k c)) := by
  have ho := h.rowo
  rw [hv] at ho
  refine h.newO (World.grownBy.refl w _) (own_take ho hk rfl) (fun g' hg' => .inl ?_)
  rw [hv]; exact hg'

set_option maxHeartbeats 8000000 in
set_option maxRecDepth 100000 in
theorem ppair_any {B b : Nat} {x : Option Part} {v : Vs} {l : List Em.R} {L O N : List Nat} {P : List (Nat × Nat × Nat)} {w : World} (hM : PM B b x v l L O N P w) (i c oj s lo lc : Nat) (hi : i < O.length) (hoj : O[i] = oj) (hjL : oj < L.length) (hcL : c < L.length) (hne : oj ≠ c)
    (hlo : L[oj] = lo) (hlc : L[c] = lc) (hlo1 : 1 ≤ lo ∧ lo ≤ 100) (hlc1 : 1 ≤ lc ∧ lc ≤ 100) (hL : L.length ≤ 4000000) (hO : O.length ≤ 4000000) (hP : P.length ≤ 1000000000)
    (d1 : Bool) (d2 : Bool) (hd1 : decide (2 ≤ lo) = d1) (hd2 : decide (2 ≤ lc) = d2) (hs : s = if (d1 && d2) = true then 2 else 1) :
    Calls Tryz.prog 89 #[.pointer (some ⟨b, 0, none⟩), .int .i64 (i : Int), .int .i64 (c : Int)] w fun e w' => e = .returned (.tuple #[]) ∧
      (∃ v', v'.l = v.l ∧ v'.r = v.r ∧ PM B b x v' l ((L.set oj (lo - s)).set c (lc - s)) (Em.pairO O i (lo - s)) N (P ++ [(oj, c, s)]) w') ∧ Below B w w' := by
  have hs2 : 1 ≤ s ∧ s ≤ 2 ∧ s ≤ lo ∧ s ≤ lc ∧ (s : Int) = (if (d1 && d2) = true then 2 else 1) := by
    have h1 : d1 = true → 2 ≤ lo := fun h => of_decide_eq_true (hd1.trans h)
    have h2 : d2 = true → 2 ≤ lc := fun h => of_decide_eq_true (hd2.trans h)
    cases d1 <;> cases d2 <;> simp_all
  obtain ⟨hs0, hs1, hsl, hsc, hsi⟩ := hs2
  have e1 : decide ((2 : Int) ≤ (lo : Int)) = d1 := by rw [← hd1]; exact decide_eq_decide.2 (by omega)
  have e2 : decide ((2 : Int) ≤ (lc : Int)) = d2 := by rw [← hd2]; exact decide_eq_decide.2 (by omega)
  obtain ⟨ro, hro⟩ : ∃ r, r = lo - s := ⟨_, rfl⟩
  obtain ⟨rc, hrc⟩ : ∃ r, r = lc - s := ⟨_, rfl⟩
  obtain ⟨sz, hsz⟩ : ∃ z : Int, z = (s : Int) := ⟨_, rfl⟩
  have hro2 : (lo : Int) - sz = (ro : Int) := by omega
  have hrc2 : (lc : Int) - sz = (rc : Int) := by omega
  have hcase : (d1 = false ∧ sz = 1) ∨ (d1 = true ∧ d2 = false ∧ sz = 1) ∨ (d1 = true ∧ d2 = true ∧ sz = 2) := by
    rw [hsz, hsi]
    cases d1 <;> cases d2 <;> simp
  have hroz : ro ≤ 100 := by omega
  have hrcz : rc ≤ 100 := by omega
  obtain ⟨vr, vl, vo, vn, vp⟩ := v
  obtain ⟨hB, hbw, hfz, m0, m1, m2, m3, m4⟩ := hM.blk
  obtain ⟨gl, cl, hvl, hcl, hBl, hgl⟩ := own_some hM.rowl (by omega)
  obtain ⟨go, co, hvo, hco, hBo, hgo⟩ := own_some hM.rowo (by omega)
  obtain ⟨AP, cp, hvp, hcp⟩ := own_shape hM.rowp
  simp only at hvl hvo hvp m0 m1 m2 m3 m4
  subst hvl hvo hvp
  have hrl := hM.rowl
  have hro' := hM.rowo
  simp only at hrl hro'
  have o0 := own_int hro' hi
  rw [hoj] at o0
  have l0 := own_int hrl hjL
  rw [hlo] at l0
  have l1 := own_int hrl hcL
  rw [hlc] at l1
  have lf := fun j => hrl.frozenAt j
  have hM4 := Lib.hid (fun y : Nat => hM.setL (g := gl) (c := cl) rfl oj y)
  have hM5 := Lib.hid (fun y z : Nat => (hM.setL (g := gl) (c := cl) rfl oj y).setL (g := gl) (c := cl) (by rw [List.length_set]) c z)
  have hB4 := Lib.hid (fun y : Value => (Below.refl B w).setCell (p := ⟨gl, oj, none⟩) hBl y)
  replace hrl := Lib.hid hrl
  replace hro' := Lib.hid hro'
  replace hs := Lib.hid hs
  replace hro := Lib.hid hro
  replace hrc := Lib.hid hrc
  replace hsz := Lib.hid hsz
  replace hlo := Lib.hid hlo
  replace hlc := Lib.hid hlc
  replace hoj := Lib.hid hoj
  clear hM
  have hlob : (lo : Int) ≤ 100 := by omega
  have hlcb : (lc : Int) ≤ 100 := by omega
  have hzero : Hid (Em.pairO O i (lo - s) = if ro = 0 then O.take i else O.take (i + 1)) := Lib.hid (by rw [← hro.out]; rfl)
  have hpair : Hid (Em.pairO O i (lo - s) = if ro = 0 then O.take i else O.take (i + 1)) := hzero
  clear m0 m3 hd1 hd2 hs0 hsl hsc hsi hs1 hzero hs
  replace hpair := hpair
  rcases hcase with ⟨rfl, rfl⟩ | ⟨rfl, rfl, rfl⟩ | ⟨rfl, rfl, rfl⟩
  all_goals
    go_enter Tryz.func89, Tryz.ntmps89
    go_upto_region 5 with fail
    generalize hw4 : World.setCell w _ _ = w4
    have hM4' : PM B b x ⟨vr, .slice (some ⟨gl, 0, none⟩) L.length cl, .slice (some ⟨go, 0, none⟩) O.length co, vn, .slice AP P.length cp⟩ l (L.set oj ro) O N P w4 := by rw [← hw4]; exact hM4.out ro
    have hB4' : Below B w w4 := by rw [← hw4]; exact hB4.out _
    obtain ⟨_, hbw4, hfz4, _, m1', _, _, _⟩ := hM4'.blk
    have hrl4 := hM4'.rowl
    simp only [List.length_set] at m1' hrl4
    have l1' := own_int hrl4 (k := c) (by rw [List.length_set]; exact hcL)
    rw [List.getElem_set_ne hne, hlc.out] at l1'
    have lf' := fun j => hrl4.frozenAt j
    have hgl4 : gl < w4.heap.size := Nat.lt_of_lt_of_le hgl hB4'.size
    have hM5' := Lib.hid (hM4'.setL (g := gl) (c := cl) (by rw [List.length_set]) c rc)
    replace hB4' := Lib.hid hB4'
    replace hM4' := Lib.hid hM4'
    clear hw4 m1 m2 m4 o0 l0 l1 lf hM4 hM5 hrl4 hfz
    go_upto_region 6 with fail
    generalize hw5 : World.setCell w4 _ _ = w5
    have hM5 : PM B b x ⟨vr, .slice (some ⟨gl, 0, none⟩) L.length cl, .slice (some ⟨go, 0, none⟩) O.length co, vn, .slice AP P.length cp⟩ l ((L.set oj ro).set c rc) O N P w5 := by rw [← hw5]; exact hM5'.out
    have hB5 : Below B w w5 := by rw [← hw5]; exact hB4'.out.setCell (p := ⟨gl, c, none⟩) hBl _
    clear hw5 hM5' hB4' hM4' m1' l1' lf' hfz4 hbw4 hgl4
    obtain ⟨L2, hL2⟩ : ∃ L2, L2 = (L.set oj ro).set c rc := ⟨_, rfl⟩
    have hL2l : L2.length = L.length := by rw [hL2, List.length_set, List.length_set]
    have hL2o : L2[oj]'(by omega) = ro := by subst hL2; rw [List.getElem_set_ne (Ne.symm hne), List.getElem_set_self]
    rw [← hL2] at hM5
    obtain ⟨_, hbw5, hfz5, _, m1, m2, _, m4⟩ := hM5.blk
    simp only at m1 m2 m4
    have hBw5 := hB5.size
    replace hM5 := Lib.hid hM5
    replace hB5 := Lib.hid hB5
    replace hL2 := Lib.hid hL2
    replace hL2o := Lib.hid hL2o
    go_upto_region 7 with (at_builtin; refine wpList_app_two rfl (.tmp 57) (.tmp 62) rfl ppairEI rfl hM5.out.rowp rfl (by simp) rfl (by intro u hu; simp at hu; rcases hu with rfl | rfl | rfl <;> rfl) (by omega) (by omega) (by omega) ?_; intro vp7 w7 ho7 hg7 hb7 hat7; obtain ⟨A7, c7, rfl, hc7⟩ := own_shape ho7; obtain ⟨hfz7, m47⟩ := hM5.out.atP hg7.out; have hbw7 : b < w7.heap.size := Nat.lt_of_lt_of_le hbw5 hb7.size)
    generalize hw8 : World.setCell w7 _ _ = w8
    have hM8 : PM B b x ⟨vr, .slice (some ⟨gl, 0, none⟩) L.length cl, .slice (some ⟨go, 0, none⟩) O.length co, vn, .slice A7 (P.length + 1) c7⟩ l L2 O N (P ++ [(oj, c, s)]) w8 := by
      rw [← hw8]
      exact hM5.out.newP hg7.out (by simpa [pcells, pcell, ← hsz.out] using ho7) hat7.out
    have hB8 : Below B w w8 := by rw [← hw8]; exact (hB5.out.trans hb7).setCell (p := ⟨b, 4, none⟩) hB _
    clear hw8 hM5 hB5 ho7 hg7 hb7 hat7 hfz7 m47 hbw7 hfz5 m1 m2 m4 hbw5 hBw5
    obtain ⟨_, hbw8, hfz8, _, m1, m2, _, m4⟩ := hM8.blk
    simp only at m1 m2 m4
    have hcut := cut_int go O.length co (i + 1) (v := (i : Int) + 1) rfl (by omega)
    have hM9' := Lib.hid (hM8.cutO (g := go) (c := co) rfl (k := i + 1) (by omega))
    replace hM8 := Lib.hid hM8
    replace hB8 := Lib.hid hB8
    go_upto_region 8 with fail
    generalize hw9 : World.setCell w8 _ _ = w9
    have hM9 : PM B b x ⟨vr, .slice (some ⟨gl, 0, none⟩) L.length cl, .slice (some ⟨go, 0, none⟩) (i + 1) co, vn, .slice A7 (P.length + 1) c7⟩ l L2 (O.take (i + 1)) N (P ++ [(oj, c, s)]) w9 := by rw [← hw9]; exact hM9'.out
    have hB9 : Below B w w9 := by rw [← hw9]; exact hB8.out.setCell (p := ⟨b, 2, none⟩) hB _
    clear hw9 hM9' hM8 hB8 hfz8 m1 m2 m4 hbw8 hcut
    obtain ⟨_, hbw9, hfz9, _, m1, m2, _, m4⟩ := hM9.blk
    have hrl9 := hM9.rowl
    simp only [hL2l] at m1 m2 m4 hrl9
    have l9 := own_int hrl9 (k := oj) (by omega)
    rw [hL2o.out] at l9
    have hcut := cut_int go (i + 1) co i (v := (i : Int)) rfl (by omega)
    have hlen : (O.take (i + 1)).length = i + 1 := by rw [List.length_take]; omega
    have htt : (O.take (i + 1)).take i = O.take i := by rw [List.take_take]; congr 1; omega
    have hM10' := Lib.hid (hM9.cutO (g := go) (c := co) (by rw [hlen]) (k := i) (by omega))
    rw [htt] at hM10'
    have hgl9 : gl < w9.heap.size := Nat.lt_of_lt_of_le hgl hB9.size
    have hB10' := Lib.hid (hB9.setCell (p := ⟨b, 2, none⟩) hB (.slice (some ⟨go, 0, none⟩) i co))
    replace hM9 := Lib.hid hM9
    replace hB9 := Lib.hid hB9
    replace hlen := Lib.hid hlen
    replace htt := Lib.hid htt
    replace hrl9 := Lib.hid hrl9
    rw [hL2.out, hro.out, hrc.out] at hM9
    rw [hL2.out, hro.out, hrc.out] at hM10'
    rcases Nat.eq_zero_or_pos ro with hz | hz
    · have t0 : ((ro : Int) == 0) = true := by simpa using hz
      have hO2 : Hid (Em.pairO O i (lo - s) = O.take i) := Lib.hid (by rw [hpair.out, if_pos hz])
      clear hz
      go_wp2_with fail
      go_returns
      exact ⟨rfl, ⟨_, rfl, rfl, by rw [hO2.out]; exact hM10'.out⟩, hB10'.out⟩
    · have t0 : ((ro : Int) == 0) = false := by
        rw [beq_eq_false_iff_ne]; omega
      have hO2 : Hid (Em.pairO O i (lo - s) = O.take (i + 1)) := Lib.hid (by rw [hpair.out, if_neg (by omega)])
      clear hz
      go_wp2_with fail
      go_returns
      exact ⟨rfl, ⟨_, rfl, rfl, by rw [hO2.out]; exact hM9.out⟩, hB9.out⟩
end Go.Proofs.YtkfhkfagmokjpaaGreatDoor
end

section
namespace Go.Proofs.YtkfhkfagmokjpaaGreatDoor
open Go.RowKit

/-- while one run is closed -/
def CloseAt (B b : Nat) (x : Option Part) (l : List Em.R) (c gl cl : Nat) (fin : Em.St) (r0 : Value) (w wr : World) : Prop :=
  ∃ (v : Vs) (st : Em.St) (L O N : List Nat), Hid (v.r = r0) ∧ Hid (v.l = .slice (some ⟨gl, 0, none⟩) l.length cl) ∧ Hid (PM B b x v l L O N st.2 wr) ∧ Hid (Em.SimI l c st L O N) ∧ Hid (Em.inner l c st = fin) ∧ Hid (Below B w wr)

set_option maxHeartbeats 8000000 in
set_option maxRecDepth 100000 in
theorem pclose_any {B b : Nat} {x : Option Part} {v : Vs} {l : List Em.R} {L O N : List Nat} {w : World} (c : Nat) (st : Em.St) (hM : PM B b x v l L O N st.2 w) (hS : Em.SimI l c st L O N) (hc : c < l.length) (hl : l.length ≤ 4000000) (hH : Em.Held l) (hcc : (Em.get l c).c = true) :
    Calls Tryz.prog 69 #[.pointer (some ⟨b, 0, none⟩), .int .i64 (c : Int)] w fun e w' => e = .returned (.tuple #[]) ∧
      (∃ v', v'.r = v.r ∧ ∃ L' O' N', PM B b x v' l L' O' N' (Em.inner l c st).2 w' ∧ Em.SimI l c (Em.inner l c st) L' O' N') ∧ Below B w w' := by
  obtain ⟨gl, cl, hvl, hcl, hBl, hgl⟩ := own_some hM.rowl (by rw [hS.1.len]; omega)
  rw [hS.1.len] at hvl
  obtain ⟨fin, hfin⟩ : ∃ fin, fin = Em.inner l c st := ⟨_, rfl⟩
  rw [← hfin]
  obtain ⟨r0, hr0⟩ : ∃ r0, v.r = r0 := ⟨_, rfl⟩
  rw [hr0]
  have hIn : CloseAt B b x l c gl cl fin r0 w w := ⟨v, st, L, O, N, Lib.hid hr0, Lib.hid hvl, Lib.hid hM, Lib.hid hS, Lib.hid hfin.symm, Lib.hid (Below.refl _ _)⟩
  have hH0 := Lib.hid hH
  have hcc0 := Lib.hid hcc
  clear hM hS hfin hvl hH hcc hgl hr0
  go_enter Tryz.func69, Tryz.ntmps69
  go_wp2_with fail
  go_loopw [] (fun wr => CloseAt B b x l c gl cl fin r0 w wr) (fun wr => match wr.cell? ⟨gl, c, none⟩ with | some (.int _ n) => n.toNat | _ => 0)
  case atStart => exact hIn
  case round =>
    obtain ⟨v, st, L, O, N, hvr, hvl, hM, hS, hfi, hBw⟩ := hrel
    clear hIn
    have hLl := hS.out.1.len
    have hcL : c < L.length := by omega
    obtain ⟨hB, hbw, hfz, _, m1, _, _, _⟩ := hM.out.blk
    have hrl := hM.out.rowl
    rw [hvl.out] at m1 hrl
    rw [hLl] at hrl
    have hgl := (hrl.lt _ rfl).2
    have l0 := own_int hrl hcL
    obtain ⟨lc, hlc⟩ : ∃ n, n = L[c] := ⟨_, rfl⟩
    rw [← hlc] at l0
    have hlfc : Em.lf L c = lc := by rw [Em.lf_at hcL, hlc]
    have hlst : Em.lf st.1 c = lc := by rw [← hS.out.2, hlfc]
    have hbd := hS.out.1.bd c
    have hfew := hS.out.1.few
    have hOf := hS.out.1.open_few
    replace hlc := Lib.hid hlc
    replace hlfc := Lib.hid hlfc
    replace hlst := Lib.hid hlst
    replace hrl := Lib.hid hrl
    rw [hlst.out] at hbd hfew
    rcases Nat.eq_zero_or_pos lc with hz | hz
    · subst hz
      have hstop : Hid (Em.inner l c st = st) := Lib.hid (Em.inner_stop (by rw [hlst.out]; omega))
      have hfi2 : Hid (st = fin) := Lib.hid (hstop.out.symm.trans hfi.out)
      clear hfi hstop hfew
      go_wp2_with fail
      go_returns
      exact ⟨rfl, ⟨v, hvr.out, L, O, N, by rw [← hfi2.out]; exact hM.out, by rw [← hfi2.out]; exact hS.out⟩, hBw.out⟩
    · have t0 : decide ((0 : Int) < (lc : Int)) = true := decide_eq_true (by omega)
      have hmeas : Hid ((match wr.cell? ⟨gl, c, none⟩ with | some (.int _ n) => n.toNat | _ => 0) = lc) := Lib.hid (by rw [l0]; simp)
      have q := pnearest_any hM.out c hc hl hH0.out (by omega) (fun j hj => (hS.out.1.open_lt hj).2) hS.out.1.sorted hS.out.1.nlen (fun j hj h => hS.out.1.none _ j hj h)
      clear hrl
      go_wp2_with fail
      refine q.mono ?_
      rintro e w2 ⟨r, rfl, hr, hb2, hM2⟩
      replace hr := Lib.hid hr
      replace hM2 := Lib.hid hM2
      have hBw2 := Lib.hid (hBw.out.trans hb2)
      clear q hb2 m1 l0 hfz hbw
      cases r with
      | none =>
        have hstop : Hid (Em.inner l c st = st) := Lib.hid (Em.sim_stop hH0.out hS.out hcc0.out hr.out)
        have hfi2 : Hid (st = fin) := Lib.hid (hstop.out.symm.trans hfi.out)
        have hS2 := Lib.hid (Em.sim_none hS.out hr.out)
        have hM3 : Hid (PM B b x v l L O (N.set (Em.sortN (Em.get l c)) c) st.2 w2) := Lib.hid (by have := hM2.out; rwa [if_pos rfl] at this)
        clear hfi hstop hM2
        unfold nearV
        go_wp2_with fail
        go_returns
        exact ⟨rfl, ⟨v, hvr.out, L, O, _, by rw [← hfi2.out]; exact hM3.out, by rw [← hfi2.out]; exact hS2.out⟩, hBw2.out⟩
      | some i =>
        obtain ⟨hi, hf, hn⟩ := hr.out
        have hfound := Em.sim_found hH0.out hS.out hcc0.out hi hf hn
        have hmem := List.getElem_mem hi
        have hlt := hS.out.1.open_lt hmem
        have hm := (hS.out.1.mem _).1 hmem
        have hleft := hS.out.1.left _ hmem
        have hstep := Em.inner_step hcc0.out (by rw [hlst.out]; exact hz) hfound
        have hS3 := Em.sim_pair hS.out hc (by rw [hlst.out]; exact hz) hi rfl
        have hbdo := hS.out.1.bd O[i]
        have hM3 : PM B b x v l L O N st.2 w2 := by have := hM2.out; rwa [if_neg (by simp)] at this
        have hsz : Em.size st.1 O[i] c = if (decide (2 ≤ Em.lf L O[i]) && decide (2 ≤ lc)) = true then 2 else 1 := by
          unfold Em.size
          rw [hleft, hlst.out]
          by_cases h1 : 1 < Em.lf st.1 O[i] ∧ 1 < lc
          · rw [if_pos h1, if_pos (by rw [Bool.and_eq_true]; exact ⟨decide_eq_true h1.1, decide_eq_true h1.2⟩)]
          · rw [if_neg h1, if_neg]
            rw [Bool.and_eq_true]
            rintro ⟨h2, h3⟩
            exact h1 ⟨of_decide_eq_true h2, of_decide_eq_true h3⟩
        have q2 := ppair_any hM3 i c O[i] (Em.size st.1 O[i] c) (Em.lf L O[i]) lc hi rfl (by omega) hcL (by omega) (by rw [Em.lf_at (by omega)]) (hlc.out.symm) (by rw [hleft]; omega) (by omega) (by omega) (by omega) (by omega) _ _ rfl rfl hsz
        have hsp := Em.size_pos st.1 O[i] c
        rw [hstep] at hfi
        obtain ⟨sz, hszd⟩ : ∃ s, s = Em.size st.1 O[i] c := ⟨_, rfl⟩
        rw [← hszd] at q2 hS3 hfi hsp
        obtain ⟨oj, hoj⟩ : ∃ o, o = O[i] := ⟨_, rfl⟩
        rw [← hoj] at q2 hS3 hfi hlt
        replace hS3 := Lib.hid hS3
        clear hstep hfound hf hn hr hM2 hM3 hm hleft hbdo hmem hoj hszd hsz
        unfold nearV
        go_wp2_with fail
        refine q2.mono ?_
        rintro e w3 ⟨rfl, ⟨v3, hv3, hr3, hM4⟩, hb3⟩
        have hrl3 := hM4.rowl
        rw [hv3, hvl.out] at hrl3
        simp only [List.length_set, hLl] at hrl3
        have hpl : Em.pairL L oj c sz = (L.set oj (Em.lf L oj - sz)).set c (lc - sz) := by unfold Em.pairL; rw [hlfc.out]
        have l3 := own_int hrl3 (k := c) (by rw [List.length_set, List.length_set]; exact hcL)
        rw [List.getElem_set_self] at l3
        have hfin3 : Hid (CloseAt B b x l c gl cl fin r0 w w3) := Lib.hid ⟨v3, _, _, _, N, Lib.hid (hr3.trans hvr.out), Lib.hid (hv3.trans hvl.out), Lib.hid hM4, Lib.hid (by rw [← hpl]; exact hS3.out), hfi, Lib.hid (hBw2.out.trans hb3)⟩
        replace l3 := Lib.hid l3
        clear q2 hS3 hM4 hb3 hrl3 hpl hv3 hr3 hfi hM hS
        go_wp2_with fail
        go_roundw
        case rel => exact hfin3.out
        case measure => rw [hmeas.out, l3.out]; simp; omega
end Go.Proofs.YtkfhkfagmokjpaaGreatDoor
end

section
namespace Go.Proofs.YtkfhkfagmokjpaaGreatDoor
open Go.RowKit
attribute [local go_sem] canOp readsAs readUpon

section
variable {P : Program} {ops : Array Oper} {Q : Exit → Act → World → Prop}
theorem held_node {fuel : Nat} {listed : Array Bool} {a : Act} {w : World} (is : List Nat) (hr : Region.ready .any ops listed = is) (hne : is ≠ [])
    (h : ∀ i ∈ is, wpOp P ops Q i (fun a' w' => True ∧ wpAnyH P .any ops Q (fun _ => True) fuel (listed.setIfInBounds i true) a' w') a w) : wpAnyH P .any ops Q (fun _ => True) (fuel + 1) listed a w :=
  wpAnyH_all hr hne h
theorem held_op {fuel i : Nat} {listed : Array Bool} {a : Act} {w : World} {o : Oper} (ho : ops[i]? = some o) (hg : o.guard = none)
    (h : ∀ K : Act → World → Prop, (∀ a' w', wpAnyH P .any ops Q (fun _ => True) fuel (listed.setIfInBounds i true) a' w' → K a' w') → o.wp P a w K Q) :
    wpOp P ops Q i (fun a' w' => True ∧ wpAnyH P .any ops Q (fun _ => True) fuel (listed.setIfInBounds i true) a' w') a w := by
  unfold wpOp
  simp only [ho]
  rw [if_pos (by simp [Region.wanted, hg])]
  exact .inl (h _ fun _ _ hh => ⟨trivial, hh⟩)
theorem held_rd {fuel i : Nat} {listed : Array Bool} {a : Act} {w : World} {o : Oper} (v : Value) (ho : ops[i]? = some o) (hg : o.guard = none) (hs : Region.noSelect ops = true) (h1 : (Region.ready .any ops listed).contains i = true) (h2 : Region.free .any ops listed i = true)
    (hQ : ∀ c a d v w, Q (.panic c) (Act.put a d v) w → Q (.panic c) a w) (hv : ∀ w', (execOp a.eval o).run P w' = .ok (.value v) w') (k : wpAnyH P .any ops Q (fun _ => True) fuel (listed.setIfInBounds i true) (a.put o.dst v) w) :
    wpAnyH P .any ops Q (fun _ => True) (fuel + 1) listed a w :=
  wpAnyH_take ho hs h2 h1 (fun c a w => hQ c a o.dst v w) (.inl ⟨by simp [Region.wanted, hg], fun w' _ => hv w'⟩) trivial k
end

noncomputable def mops : Array Oper := match regionAt Tryz.f44 1 with | .region _ ops _ => ops | _ => #[]
def mk4 (o0 o1 o2 o4 : Option Part) : Nat → Option Part
  | 0 => o0
  | 1 => o1
  | 2 => o2
  | 4 => o4
  | _ => none
theorem mk4_none (w : World) (B : Nat) : Hp w B (mk4 none none none none) := by
  have h : ∀ (k : Nat) (a : Part), mk4 none none none none k ≠ some a := by
    intro k a h
    match k with
    | 0 | 1 | 2 | 3 | 4 => cases h
    | _ + 5 => cases h
  exact ⟨fun k a ha => absurd ha (h k a), fun k k' a a' g h1 => absurd h1 (h k a)⟩
theorem zeros_int (n : Nat) : (madeCells #[.int .i64 0] (n * 1)).toList = lcells (List.replicate n 0) := by
  rw [Nat.mul_one, Go.toList_madeCells_one, lcells, List.map_replicate]; rfl
abbrev mzero : Array Value := #[.slice none 0 0, .slice none 0 0, .slice none 0 0, .slice none 0 0, .slice none 0 0]
abbrev prow (l : List Em.R) (v : Value) : Option Part := some (.row 96 4 v l.length (acells (Em.hold l)))
abbrev lrow (n : Nat) (v : Value) : Option Part := some (.row 3 1 v n (lcells (List.replicate n 0)))
abbrev mblk (b : Nat) : Option Part := some (.blk b mzero 117)
/-- all is made -/
theorem mk4_pm {l : List Em.R} {B b : Nat} {vr vl vn : Value} {w : World} (h : Hp w B (mk4 (mblk b) (prow l vr) (lrow l.length vl) (lrow 1536 vn))) :
    PM B b none ⟨vr, vl, .slice none 0 0, vn, .slice none 0 0⟩ (Em.hold l) (List.replicate l.length 0) [] (List.replicate 1536 0) []
      (((((w.setCell ⟨b, 0, none⟩ vr).setCell ⟨b, 1, none⟩ vl).setCell ⟨b, 2, none⟩ (.slice none 0 0)).setCell ⟨b, 3, none⟩ vn).setCell ⟨b, 4, none⟩ (.slice none 0 0)) := by
  have e1 : (Em.hold l).length = l.length := by simp [Em.hold]
  have h3 : Hp w B (pmm b mzero none (Em.hold l) vr (List.replicate l.length 0) vl [] (.slice none 0 0) (List.replicate 1536 0) vn [] (.slice none 0 0)) := by
    refine ⟨fun k a ha => ?_, fun k k' a a' g h1 h2 hg hg' => ?_⟩
    · match k with
      | 0 => exact h.holds 0 a ha
      | 1 => exact h.holds 1 a (by simpa only [pmm, mk4, e1] using ha)
      | 2 => exact h.holds 2 a (by simpa only [pmm, mk4, List.length_replicate] using ha)
      | 4 => exact h.holds 4 a (by simpa only [pmm, mk4, List.length_replicate] using ha)
      | 3 => cases ha; exact World.ownsRow_nil _ _ _ _
      | 5 => cases ha; exact World.ownsRow_nil _ _ _ _
      | 6 => cases ha
      | _ + 7 => cases ha
    · have key : ∀ (k : Nat) (a : Part) (g : Nat), pmm b mzero none (Em.hold l) vr (List.replicate l.length 0) vl [] (.slice none 0 0) (List.replicate 1536 0) vn [] (.slice none 0 0) k = some a → a.block = some g → mk4 (mblk b) (prow l vr) (lrow l.length vl) (lrow 1536 vn) k = some a := by
        intro k a g ha hb
        match k with
        | 0 => exact ha
        | 1 => simpa only [pmm, mk4, e1] using ha
        | 2 => simpa only [pmm, mk4, List.length_replicate] using ha
        | 4 => simpa only [pmm, mk4, List.length_replicate] using ha
        | 3 => cases ha; simp [Part.block, Value.ownBlock] at hb
        | 5 => cases ha; simp [Part.block, Value.ownBlock] at hb
        | 6 => cases ha
        | _ + 7 => cases ha
      exact h.apart k k' a a' g (key k a g h1 hg) (key k' a' g h2 hg') hg hg'
  have st : ∀ (w : World) (cs : Array Value) (j : Nat) (v : Value), Hp w B (pmm b cs none (Em.hold l) vr (List.replicate l.length 0) vl [] (.slice none 0 0) (List.replicate 1536 0) vn [] (.slice none 0 0)) →
      Hp (w.setCell ⟨b, j, none⟩ v) B (pmm b (cs.setIfInBounds j v) none (Em.hold l) vr (List.replicate l.length 0) vl [] (.slice none 0 0) (List.replicate 1536 0) vn [] (.slice none 0 0)) := by
    intro w cs j v h
    refine Hp.store (k := 0) (cs := cs) (t := 117) h rfl ?_ rfl
    intro j hj
    match j with
    | 0 => exact absurd rfl hj
    | 1 | 2 | 3 | 4 | 5 | 6 => rfl
    | _ + 7 => rfl
  exact st _ _ 4 _ (st _ _ 3 _ (st _ _ 2 _ (st _ _ 1 _ (st _ _ 0 _ h3))))
/-- what is asked behind the beginning -/
def StartQ (l : List Em.R) (A : Option Addr) (c : Nat) (w0 : World) (Q : Exit → Act → World → Prop) : Prop :=
  ∀ (b : Nat) (v : Vs) (v12 : Value) (wq : World), PM w0.heap.size b none v (Em.hold l) (List.replicate l.length 0) [] (List.replicate 1536 0) [] wq → Below w0.heap.size w0 wq → Q .normal ⟨(.slice A l.length c :: undef :: .slice none 0 0 :: .pointer (some ⟨b, 0, none⟩) :: undef :: undef :: .slice A l.length c :: v.r :: .slice A l.length c :: .int .i64 (l.length : Int) :: v.l :: v.n :: v12 :: undef :: undef :: undef :: undef :: undef :: undef :: undef :: undef :: undef :: undef :: undef :: undef :: undef :: undef :: undef :: undef :: undef :: undef :: undef :: undef :: undef :: undef :: undef :: undef :: undef :: undef :: undef :: undef :: undef :: undef :: undef :: undef :: undef :: undef :: undef :: undef :: undef :: []).toArray, []⟩ wq
abbrev PanQ (Q : Exit → Act → World → Prop) : Prop := ∀ c a d v w, Q (.panic c) (Act.put a d v) w → Q (.panic c) a w

set_option maxHeartbeats 2000000 in
set_option maxRecDepth 100000 in
theorem nd_1111s {l : List Em.R} {A : Option Addr} {c : Nat} {w0 w : World} {Q : Exit → Act → World → Prop} {vr : Value} {vl : Value} {vn : Value} {b : Nat} (_hpan : PanQ Q) (hq : StartQ l A c w0 Q) (_hR : Row w0 w0.heap.size 4 A l.length (acells l)) (_hl : l.length ≤ 4000000) (hb : Below w0.heap.size w0 w)
    (hH : Hp w w0.heap.size (mk4 (mblk b) (prow l vr) (lrow l.length vl) (lrow 1536 vn))) : wpAnyH Tryz.prog .any mops Q (fun _ => True) 1 #[true, true, true, true, true, true, true, true, false] ⟨(.slice A l.length c :: undef :: .slice none 0 0 :: .pointer (some ⟨b, 0, none⟩) :: undef :: undef :: .slice A l.length c :: vr :: .slice A l.length c :: .int .i64 (l.length : Int) :: vl :: vn :: (.agg #[vr, vl, .slice none 0 0, vn, .slice none 0 0]) :: undef :: undef :: undef :: undef :: undef :: undef :: undef :: undef :: undef :: undef :: undef :: undef :: undef :: undef :: undef :: undef :: undef :: undef :: undef :: undef :: undef :: undef :: undef :: undef :: undef :: undef :: undef :: undef :: undef :: undef :: undef :: undef :: undef :: undef :: undef :: undef :: undef :: []).toArray, []⟩ w := by
  replace hq := Lib.hid hq
  obtain ⟨A1, c1, rfl, _⟩ := own_shape (Hp.own hH (k := 1) rfl)
  obtain ⟨A2, c2, rfl, _⟩ := own_shape (Hp.own hH (k := 2) rfl)
  obtain ⟨A4, c4, rfl, _⟩ := own_shape (Hp.own hH (k := 4) rfl)
  obtain ⟨hB, hbw, hblk⟩ := Hp.base hH (k := 0) rfl
  have z0 := blk_cell hblk 0
  have z1 := blk_cell hblk 1
  have z2 := blk_cell hblk 2
  have z3 := blk_cell hblk 3
  have z4 := blk_cell hblk 4
  have hfz := blk_free hblk
  have hP := Lib.hid (mk4_pm hH)
  have hB2 := Lib.hid (((((hb.setCell (p := ⟨b, 0, none⟩) hB (.slice A1 l.length c1)).setCell (p := ⟨b, 1, none⟩) hB (.slice A2 l.length c2)).setCell (p := ⟨b, 2, none⟩) hB (.slice none 0 0)).setCell (p := ⟨b, 3, none⟩) hB (.slice A4 1536 c4)).setCell (p := ⟨b, 4, none⟩) hB (.slice none 0 0))
  clear hblk hH
  refine held_node [8] (by kernel_rfl) (by simp) ?_
  intro i hi
  obtain rfl : i = 8 := by simpa using hi
  refine held_op (o := ⟨none, .store 117 (.tmp 3) (.tmp 12), _, _, _, none⟩) rfl rfl ?_
  intro K hK
  go_simp
  refine hK _ _ (wpAnyH_done (by kernel_rfl) ?_ _)
  exact hq.out b ⟨_, _, _, _, _⟩ _ _ hP.out hB2.out

set_option maxHeartbeats 2000000 in
set_option maxRecDepth 100000 in
theorem nd_1111 {l : List Em.R} {A : Option Addr} {c : Nat} {w0 w : World} {Q : Exit → Act → World → Prop} {vr : Value} {vl : Value} {vn : Value} {b : Nat} (hpan : PanQ Q) (hq : StartQ l A c w0 Q) (hR : Row w0 w0.heap.size 4 A l.length (acells l)) (hl : l.length ≤ 4000000) (hb : Below w0.heap.size w0 w)
    (hH : Hp w w0.heap.size (mk4 (mblk b) (prow l vr) (lrow l.length vl) (lrow 1536 vn))) : wpAnyH Tryz.prog .any mops Q (fun _ => True) 2 #[true, true, true, true, true, true, false, true, false] ⟨(.slice A l.length c :: undef :: .slice none 0 0 :: .pointer (some ⟨b, 0, none⟩) :: undef :: undef :: .slice A l.length c :: vr :: .slice A l.length c :: .int .i64 (l.length : Int) :: vl :: vn :: undef :: undef :: undef :: undef :: undef :: undef :: undef :: undef :: undef :: undef :: undef :: undef :: undef :: undef :: undef :: undef :: undef :: undef :: undef :: undef :: undef :: undef :: undef :: undef :: undef :: undef :: undef :: undef :: undef :: undef :: undef :: undef :: undef :: undef :: undef :: undef :: undef :: undef :: []).toArray, []⟩ w := by
  obtain ⟨A1, c1, rfl, _⟩ := own_shape (Hp.own hH (k := 1) rfl)
  obtain ⟨A2, c2, rfl, _⟩ := own_shape (Hp.own hH (k := 2) rfl)
  obtain ⟨A4, c4, rfl, _⟩ := own_shape (Hp.own hH (k := 4) rfl)
  refine held_rd (i := 6) (o := ⟨some 12, .build 117 #[(0, .tmp 7), (1, .tmp 10), (3, .tmp 11)], _, _, _, none⟩) (.agg #[.slice A1 l.length c1, .slice A2 l.length c2, .slice none 0 0, .slice A4 1536 c4, .slice none 0 0]) rfl rfl (by kernel_rfl) (by kernel_rfl) (by kernel_rfl) hpan (fun w' => by go_simp) ?_
  exact nd_1111s hpan hq hR hl hb hH

set_option maxHeartbeats 2000000 in
set_option maxRecDepth 100000 in
theorem nd_1110s {l : List Em.R} {A : Option Addr} {c : Nat} {w0 w : World} {Q : Exit → Act → World → Prop} {vr : Value} {vl : Value} {vn : Value} (hpan : PanQ Q) (hq : StartQ l A c w0 Q) (hR : Row w0 w0.heap.size 4 A l.length (acells l)) (hl : l.length ≤ 4000000) (hb : Below w0.heap.size w0 w)
    (hH : Hp w w0.heap.size (mk4 none (prow l vr) (lrow l.length vl) (lrow 1536 vn))) : wpAnyH Tryz.prog .any mops Q (fun _ => True) 2 #[true, true, true, true, true, true, true, false, false] ⟨(.slice A l.length c :: undef :: .slice none 0 0 :: undef :: undef :: undef :: .slice A l.length c :: vr :: .slice A l.length c :: .int .i64 (l.length : Int) :: vl :: vn :: (.agg #[vr, vl, .slice none 0 0, vn, .slice none 0 0]) :: undef :: undef :: undef :: undef :: undef :: undef :: undef :: undef :: undef :: undef :: undef :: undef :: undef :: undef :: undef :: undef :: undef :: undef :: undef :: undef :: undef :: undef :: undef :: undef :: undef :: undef :: undef :: undef :: undef :: undef :: undef :: undef :: undef :: undef :: undef :: undef :: undef :: []).toArray, []⟩ w := by
  refine held_node [7] (by kernel_rfl) (by simp) ?_
  intro i hi
  obtain rfl : i = 7 := by simpa using hi
  · refine held_op (o := ⟨some 3, .alloc 117, _, _, _, none⟩) rfl rfl ?_
    intro K hK
    go_simp
    refine hK _ _ (nd_1111s hpan hq hR hl (hb.alloc hb.size _) ?_)
    exact Hp.more (k := 0) hH (a' := .blk w.heap.size mzero 117) rfl (ext_alloc w _) ⟨hb.size, heap_alloc_new w _⟩ (fun g hg => by have e : w.heap.size = g := Option.some.inj hg; omega) (fun j hj => by match j with | 0 => exact absurd rfl hj | 1 | 2 | 3 | 4 | 5 | 6 => rfl | _ + 7 => rfl) rfl

set_option maxHeartbeats 2000000 in
set_option maxRecDepth 100000 in
theorem nd_1110 {l : List Em.R} {A : Option Addr} {c : Nat} {w0 w : World} {Q : Exit → Act → World → Prop} {vr : Value} {vl : Value} {vn : Value} (hpan : PanQ Q) (hq : StartQ l A c w0 Q) (hR : Row w0 w0.heap.size 4 A l.length (acells l)) (hl : l.length ≤ 4000000) (hb : Below w0.heap.size w0 w)
    (hH : Hp w w0.heap.size (mk4 none (prow l vr) (lrow l.length vl) (lrow 1536 vn))) : wpAnyH Tryz.prog .any mops Q (fun _ => True) 3 #[true, true, true, true, true, true, false, false, false] ⟨(.slice A l.length c :: undef :: .slice none 0 0 :: undef :: undef :: undef :: .slice A l.length c :: vr :: .slice A l.length c :: .int .i64 (l.length : Int) :: vl :: vn :: undef :: undef :: undef :: undef :: undef :: undef :: undef :: undef :: undef :: undef :: undef :: undef :: undef :: undef :: undef :: undef :: undef :: undef :: undef :: undef :: undef :: undef :: undef :: undef :: undef :: undef :: undef :: undef :: undef :: undef :: undef :: undef :: undef :: undef :: undef :: undef :: undef :: undef :: []).toArray, []⟩ w := by
  obtain ⟨A1, c1, rfl, _⟩ := own_shape (Hp.own hH (k := 1) rfl)
  obtain ⟨A2, c2, rfl, _⟩ := own_shape (Hp.own hH (k := 2) rfl)
  obtain ⟨A4, c4, rfl, _⟩ := own_shape (Hp.own hH (k := 4) rfl)
  refine held_rd (i := 6) (o := ⟨some 12, .build 117 #[(0, .tmp 7), (1, .tmp 10), (3, .tmp 11)], _, _, _, none⟩) (.agg #[.slice A1 l.length c1, .slice A2 l.length c2, .slice none 0 0, .slice A4 1536 c4, .slice none 0 0]) rfl rfl (by kernel_rfl) (by kernel_rfl) (by kernel_rfl) hpan (fun w' => by go_simp) ?_
  exact nd_1110s hpan hq hR hl hb hH

set_option maxHeartbeats 2000000 in
set_option maxRecDepth 100000 in
theorem nd_1101 {l : List Em.R} {A : Option Addr} {c : Nat} {w0 w : World} {Q : Exit → Act → World → Prop} {vr : Value} {vl : Value} {b : Nat} (hpan : PanQ Q) (hq : StartQ l A c w0 Q) (hR : Row w0 w0.heap.size 4 A l.length (acells l)) (hl : l.length ≤ 4000000) (hb : Below w0.heap.size w0 w)
    (hH : Hp w w0.heap.size (mk4 (mblk b) (prow l vr) (lrow l.length vl) none)) : wpAnyH Tryz.prog .any mops Q (fun _ => True) 3 #[true, true, true, true, true, false, false, true, false] ⟨(.slice A l.length c :: undef :: .slice none 0 0 :: .pointer (some ⟨b, 0, none⟩) :: undef :: undef :: .slice A l.length c :: vr :: .slice A l.length c :: .int .i64 (l.length : Int) :: vl :: undef :: undef :: undef :: undef :: undef :: undef :: undef :: undef :: undef :: undef :: undef :: undef :: undef :: undef :: undef :: undef :: undef :: undef :: undef :: undef :: undef :: undef :: undef :: undef :: undef :: undef :: undef :: undef :: undef :: undef :: undef :: undef :: undef :: undef :: undef :: undef :: undef :: undef :: undef :: []).toArray, []⟩ w := by
  refine held_node [5] (by kernel_rfl) (by simp) ?_
  intro i hi
  obtain rfl : i = 5 := by simpa using hi
  · refine held_op (o := ⟨some 11, .makeSlice 26 (.const (.int .i64 1536)) (.const (.int .i64 1536)), _, _, _, none⟩) rfl rfl ?_
    intro K hK
    have hmk : ∀ w, (Instr.makeSlice 26 (.int .i64 1536) (.int .i64 1536)).run Tryz.prog w = .ok (.slice (some ⟨w.heap.size, 0, none⟩) 1536 1536) (w.alloc (.cells (madeCells (Value.int .i64 0).cells (1536 * 1)) 3)) := fun w => run_mk pintEI (z := .int .i64 0) (by kernel_rfl) 1536 (by omega) (by omega) w
    have hown := Lib.hid (own_mk w w0.heap.size 1 1536 3 #[.int .i64 0] hb.size (by omega))
    replace hown := Lib.hid (by have := hown.out; rwa [zeros_int] at this)
    simp only [Value.cells] at hmk
    generalize madeCells _ (1536 * 1) = C at *
    go_simp
    refine hK _ _ (nd_1111 hpan hq hR hl (hb.alloc hb.size _) ?_)
    exact Hp.more (k := 4) hH (a' := .row 3 1 (.slice (some ⟨w.heap.size, 0, none⟩) 1536 1536) 1536 (lcells (List.replicate 1536 0))) rfl (ext_alloc w _) hown.out (fun g hg => by have e : w.heap.size = g := Option.some.inj hg; omega) (fun j hj => by match j with | 0 | 1 | 2 | 3 | 5 | 6 => rfl | 4 => exact absurd rfl hj | _ + 7 => rfl) rfl

set_option maxHeartbeats 2000000 in
set_option maxRecDepth 100000 in
theorem nd_1011 {l : List Em.R} {A : Option Addr} {c : Nat} {w0 w : World} {Q : Exit → Act → World → Prop} {vr : Value} {vn : Value} {b : Nat} (hpan : PanQ Q) (hq : StartQ l A c w0 Q) (hR : Row w0 w0.heap.size 4 A l.length (acells l)) (hl : l.length ≤ 4000000) (hb : Below w0.heap.size w0 w)
    (hH : Hp w w0.heap.size (mk4 (mblk b) (prow l vr) none (lrow 1536 vn))) : wpAnyH Tryz.prog .any mops Q (fun _ => True) 3 #[true, true, true, true, false, true, false, true, false] ⟨(.slice A l.length c :: undef :: .slice none 0 0 :: .pointer (some ⟨b, 0, none⟩) :: undef :: undef :: .slice A l.length c :: vr :: .slice A l.length c :: .int .i64 (l.length : Int) :: undef :: vn :: undef :: undef :: undef :: undef :: undef :: undef :: undef :: undef :: undef :: undef :: undef :: undef :: undef :: undef :: undef :: undef :: undef :: undef :: undef :: undef :: undef :: undef :: undef :: undef :: undef :: undef :: undef :: undef :: undef :: undef :: undef :: undef :: undef :: undef :: undef :: undef :: undef :: undef :: []).toArray, []⟩ w := by
  refine held_node [4] (by kernel_rfl) (by simp) ?_
  intro i hi
  obtain rfl : i = 4 := by simpa using hi
  · refine held_op (o := ⟨some 10, .makeSlice 26 (.tmp 9) (.tmp 9), _, _, _, none⟩) rfl rfl ?_
    intro K hK
    have hmk := fun w => run_mk pintEI (z := .int .i64 0) (by kernel_rfl) l.length (by omega) (by omega) w
    have hown := Lib.hid (own_mk w w0.heap.size 1 l.length 3 #[.int .i64 0] hb.size (by omega))
    replace hown := Lib.hid (by have := hown.out; rwa [zeros_int] at this)
    simp only [Value.cells] at hmk
    generalize madeCells _ (l.length * 1) = C at *
    go_simp
    refine hK _ _ (nd_1111 hpan hq hR hl (hb.alloc hb.size _) ?_)
    exact Hp.more (k := 2) hH (a' := .row 3 1 (.slice (some ⟨w.heap.size, 0, none⟩) l.length l.length) l.length (lcells (List.replicate l.length 0))) rfl (ext_alloc w _) hown.out (fun g hg => by have e : w.heap.size = g := Option.some.inj hg; omega) (fun j hj => by match j with | 0 | 1 | 3 | 4 | 5 | 6 => rfl | 2 => exact absurd rfl hj | _ + 7 => rfl) rfl

set_option maxHeartbeats 2000000 in
set_option maxRecDepth 100000 in
theorem nd_0111 {l : List Em.R} {A : Option Addr} {c : Nat} {w0 w : World} {Q : Exit → Act → World → Prop} {vl : Value} {vn : Value} {b : Nat} (hpan : PanQ Q) (hq : StartQ l A c w0 Q) (hR : Row w0 w0.heap.size 4 A l.length (acells l)) (hl : l.length ≤ 4000000) (hb : Below w0.heap.size w0 w)
    (hH : Hp w w0.heap.size (mk4 (mblk b) none (lrow l.length vl) (lrow 1536 vn))) : wpAnyH Tryz.prog .any mops Q (fun _ => True) 3 #[true, false, true, true, true, true, false, true, false] ⟨(.slice A l.length c :: undef :: .slice none 0 0 :: .pointer (some ⟨b, 0, none⟩) :: undef :: undef :: .slice A l.length c :: undef :: .slice A l.length c :: .int .i64 (l.length : Int) :: vl :: vn :: undef :: undef :: undef :: undef :: undef :: undef :: undef :: undef :: undef :: undef :: undef :: undef :: undef :: undef :: undef :: undef :: undef :: undef :: undef :: undef :: undef :: undef :: undef :: undef :: undef :: undef :: undef :: undef :: undef :: undef :: undef :: undef :: undef :: undef :: undef :: undef :: undef :: undef :: []).toArray, []⟩ w := by
  refine held_node [1] (by kernel_rfl) (by simp) ?_
  intro i hi
  obtain rfl : i = 1 := by simpa using hi
  · refine held_op (o := ⟨some 7, .call { callee := .value (.func 68), args := #[.tmp 6], argTypes := #[57] }, _, _, _, none⟩) rfl rfl ?_
    intro K hK
    go_simp
    refine (pheld_any l A c w (hR.ext hb) hl).mono ?_
    rintro e w2 ⟨⟨vr, rfl, hown⟩, hb2⟩
    refine hK _ _ (nd_1111 hpan hq hR hl (ext_trans hb hb2) ?_)
    exact Hp.more (k := 1) hH (a' := .row 96 4 vr l.length (acells (Em.hold l))) rfl hb2 (own_base hown hb.size) (fun g hg => (hown.lt g hg).1) (fun j hj => by match j with | 0 | 2 | 3 | 4 | 5 | 6 => rfl | 1 => exact absurd rfl hj | _ + 7 => rfl) rfl

set_option maxHeartbeats 2000000 in
set_option maxRecDepth 100000 in
theorem nd_1100 {l : List Em.R} {A : Option Addr} {c : Nat} {w0 w : World} {Q : Exit → Act → World → Prop} {vr : Value} {vl : Value} (hpan : PanQ Q) (hq : StartQ l A c w0 Q) (hR : Row w0 w0.heap.size 4 A l.length (acells l)) (hl : l.length ≤ 4000000) (hb : Below w0.heap.size w0 w)
    (hH : Hp w w0.heap.size (mk4 none (prow l vr) (lrow l.length vl) none)) : wpAnyH Tryz.prog .any mops Q (fun _ => True) 4 #[true, true, true, true, true, false, false, false, false] ⟨(.slice A l.length c :: undef :: .slice none 0 0 :: undef :: undef :: undef :: .slice A l.length c :: vr :: .slice A l.length c :: .int .i64 (l.length : Int) :: vl :: undef :: undef :: undef :: undef :: undef :: undef :: undef :: undef :: undef :: undef :: undef :: undef :: undef :: undef :: undef :: undef :: undef :: undef :: undef :: undef :: undef :: undef :: undef :: undef :: undef :: undef :: undef :: undef :: undef :: undef :: undef :: undef :: undef :: undef :: undef :: undef :: undef :: undef :: undef :: []).toArray, []⟩ w := by
  refine held_node [5, 7] (by kernel_rfl) (by simp) ?_
  intro i hi
  have hi2 : i = 5 ∨ i = 7 := by simpa using hi
  clear hi
  rcases hi2 with rfl | rfl
  · refine held_op (o := ⟨some 11, .makeSlice 26 (.const (.int .i64 1536)) (.const (.int .i64 1536)), _, _, _, none⟩) rfl rfl ?_
    intro K hK
    have hmk : ∀ w, (Instr.makeSlice 26 (.int .i64 1536) (.int .i64 1536)).run Tryz.prog w = .ok (.slice (some ⟨w.heap.size, 0, none⟩) 1536 1536) (w.alloc (.cells (madeCells (Value.int .i64 0).cells (1536 * 1)) 3)) := fun w => run_mk pintEI (z := .int .i64 0) (by kernel_rfl) 1536 (by omega) (by omega) w
    have hown := Lib.hid (own_mk w w0.heap.size 1 1536 3 #[.int .i64 0] hb.size (by omega))
    replace hown := Lib.hid (by have := hown.out; rwa [zeros_int] at this)
    simp only [Value.cells] at hmk
    generalize madeCells _ (1536 * 1) = C at *
    go_simp
    refine hK _ _ (nd_1110 hpan hq hR hl (hb.alloc hb.size _) ?_)
    exact Hp.more (k := 4) hH (a' := .row 3 1 (.slice (some ⟨w.heap.size, 0, none⟩) 1536 1536) 1536 (lcells (List.replicate 1536 0))) rfl (ext_alloc w _) hown.out (fun g hg => by have e : w.heap.size = g := Option.some.inj hg; omega) (fun j hj => by match j with | 0 | 1 | 2 | 3 | 5 | 6 => rfl | 4 => exact absurd rfl hj | _ + 7 => rfl) rfl
  · refine held_op (o := ⟨some 3, .alloc 117, _, _, _, none⟩) rfl rfl ?_
    intro K hK
    go_simp
    refine hK _ _ (nd_1101 hpan hq hR hl (hb.alloc hb.size _) ?_)
    exact Hp.more (k := 0) hH (a' := .blk w.heap.size mzero 117) rfl (ext_alloc w _) ⟨hb.size, heap_alloc_new w _⟩ (fun g hg => by have e : w.heap.size = g := Option.some.inj hg; omega) (fun j hj => by match j with | 0 => exact absurd rfl hj | 1 | 2 | 3 | 4 | 5 | 6 => rfl | _ + 7 => rfl) rfl

set_option maxHeartbeats 2000000 in
set_option maxRecDepth 100000 in
theorem nd_1010 {l : List Em.R} {A : Option Addr} {c : Nat} {w0 w : World} {Q : Exit → Act → World → Prop} {vr : Value} {vn : Value} (hpan : PanQ Q) (hq : StartQ l A c w0 Q) (hR : Row w0 w0.heap.size 4 A l.length (acells l)) (hl : l.length ≤ 4000000) (hb : Below w0.heap.size w0 w)
    (hH : Hp w w0.heap.size (mk4 none (prow l vr) none (lrow 1536 vn))) : wpAnyH Tryz.prog .any mops Q (fun _ => True) 4 #[true, true, true, true, false, true, false, false, false] ⟨(.slice A l.length c :: undef :: .slice none 0 0 :: undef :: undef :: undef :: .slice A l.length c :: vr :: .slice A l.length c :: .int .i64 (l.length : Int) :: undef :: vn :: undef :: undef :: undef :: undef :: undef :: undef :: undef :: undef :: undef :: undef :: undef :: undef :: undef :: undef :: undef :: undef :: undef :: undef :: undef :: undef :: undef :: undef :: undef :: undef :: undef :: undef :: undef :: undef :: undef :: undef :: undef :: undef :: undef :: undef :: undef :: undef :: undef :: undef :: []).toArray, []⟩ w := by
  refine held_node [4, 7] (by kernel_rfl) (by simp) ?_
  intro i hi
  have hi2 : i = 4 ∨ i = 7 := by simpa using hi
  clear hi
  rcases hi2 with rfl | rfl
  · refine held_op (o := ⟨some 10, .makeSlice 26 (.tmp 9) (.tmp 9), _, _, _, none⟩) rfl rfl ?_
    intro K hK
    have hmk := fun w => run_mk pintEI (z := .int .i64 0) (by kernel_rfl) l.length (by omega) (by omega) w
    have hown := Lib.hid (own_mk w w0.heap.size 1 l.length 3 #[.int .i64 0] hb.size (by omega))
    replace hown := Lib.hid (by have := hown.out; rwa [zeros_int] at this)
    simp only [Value.cells] at hmk
    generalize madeCells _ (l.length * 1) = C at *
    go_simp
    refine hK _ _ (nd_1110 hpan hq hR hl (hb.alloc hb.size _) ?_)
    exact Hp.more (k := 2) hH (a' := .row 3 1 (.slice (some ⟨w.heap.size, 0, none⟩) l.length l.length) l.length (lcells (List.replicate l.length 0))) rfl (ext_alloc w _) hown.out (fun g hg => by have e : w.heap.size = g := Option.some.inj hg; omega) (fun j hj => by match j with | 0 | 1 | 3 | 4 | 5 | 6 => rfl | 2 => exact absurd rfl hj | _ + 7 => rfl) rfl
  · refine held_op (o := ⟨some 3, .alloc 117, _, _, _, none⟩) rfl rfl ?_
    intro K hK
    go_simp
    refine hK _ _ (nd_1011 hpan hq hR hl (hb.alloc hb.size _) ?_)
    exact Hp.more (k := 0) hH (a' := .blk w.heap.size mzero 117) rfl (ext_alloc w _) ⟨hb.size, heap_alloc_new w _⟩ (fun g hg => by have e : w.heap.size = g := Option.some.inj hg; omega) (fun j hj => by match j with | 0 => exact absurd rfl hj | 1 | 2 | 3 | 4 | 5 | 6 => rfl | _ + 7 => rfl) rfl

set_option maxHeartbeats 2000000 in
set_option maxRecDepth 100000 in
theorem nd_1001 {l : List Em.R} {A : Option Addr} {c : Nat} {w0 w : World} {Q : Exit → Act → World → Prop} {vr : Value} {b : Nat} (hpan : PanQ Q) (hq : StartQ l A c w0 Q) (hR : Row w0 w0.heap.size 4 A l.length (acells l)) (hl : l.length ≤ 4000000) (hb : Below w0.heap.size w0 w)
    (hH : Hp w w0.heap.size (mk4 (mblk b) (prow l vr) none none)) : wpAnyH Tryz.prog .any mops Q (fun _ => True) 4 #[true, true, true, true, false, false, false, true, false] ⟨(.slice A l.length c :: undef :: .slice none 0 0 :: .pointer (some ⟨b, 0, none⟩) :: undef :: undef :: .slice A l.length c :: vr :: .slice A l.length c :: .int .i64 (l.length : Int) :: undef :: undef :: undef :: undef :: undef :: undef :: undef :: undef :: undef :: undef :: undef :: undef :: undef :: undef :: undef :: undef :: undef :: undef :: undef :: undef :: undef :: undef :: undef :: undef :: undef :: undef :: undef :: undef :: undef :: undef :: undef :: undef :: undef :: undef :: undef :: undef :: undef :: undef :: undef :: undef :: []).toArray, []⟩ w := by
  refine held_node [4, 5] (by kernel_rfl) (by simp) ?_
  intro i hi
  have hi2 : i = 4 ∨ i = 5 := by simpa using hi
  clear hi
  rcases hi2 with rfl | rfl
  · refine held_op (o := ⟨some 10, .makeSlice 26 (.tmp 9) (.tmp 9), _, _, _, none⟩) rfl rfl ?_
    intro K hK
    have hmk := fun w => run_mk pintEI (z := .int .i64 0) (by kernel_rfl) l.length (by omega) (by omega) w
    have hown := Lib.hid (own_mk w w0.heap.size 1 l.length 3 #[.int .i64 0] hb.size (by omega))
    replace hown := Lib.hid (by have := hown.out; rwa [zeros_int] at this)
    simp only [Value.cells] at hmk
    generalize madeCells _ (l.length * 1) = C at *
    go_simp
    refine hK _ _ (nd_1101 hpan hq hR hl (hb.alloc hb.size _) ?_)
    exact Hp.more (k := 2) hH (a' := .row 3 1 (.slice (some ⟨w.heap.size, 0, none⟩) l.length l.length) l.length (lcells (List.replicate l.length 0))) rfl (ext_alloc w _) hown.out (fun g hg => by have e : w.heap.size = g := Option.some.inj hg; omega) (fun j hj => by match j with | 0 | 1 | 3 | 4 | 5 | 6 => rfl | 2 => exact absurd rfl hj | _ + 7 => rfl) rfl
  · refine held_op (o := ⟨some 11, .makeSlice 26 (.const (.int .i64 1536)) (.const (.int .i64 1536)), _, _, _, none⟩) rfl rfl ?_
    intro K hK
    have hmk : ∀ w, (Instr.makeSlice 26 (.int .i64 1536) (.int .i64 1536)).run Tryz.prog w = .ok (.slice (some ⟨w.heap.size, 0, none⟩) 1536 1536) (w.alloc (.cells (madeCells (Value.int .i64 0).cells (1536 * 1)) 3)) := fun w => run_mk pintEI (z := .int .i64 0) (by kernel_rfl) 1536 (by omega) (by omega) w
    have hown := Lib.hid (own_mk w w0.heap.size 1 1536 3 #[.int .i64 0] hb.size (by omega))
    replace hown := Lib.hid (by have := hown.out; rwa [zeros_int] at this)
    simp only [Value.cells] at hmk
    generalize madeCells _ (1536 * 1) = C at *
    go_simp
    refine hK _ _ (nd_1011 hpan hq hR hl (hb.alloc hb.size _) ?_)
    exact Hp.more (k := 4) hH (a' := .row 3 1 (.slice (some ⟨w.heap.size, 0, none⟩) 1536 1536) 1536 (lcells (List.replicate 1536 0))) rfl (ext_alloc w _) hown.out (fun g hg => by have e : w.heap.size = g := Option.some.inj hg; omega) (fun j hj => by match j with | 0 | 1 | 2 | 3 | 5 | 6 => rfl | 4 => exact absurd rfl hj | _ + 7 => rfl) rfl

set_option maxHeartbeats 2000000 in
set_option maxRecDepth 100000 in
theorem nd_0110 {l : List Em.R} {A : Option Addr} {c : Nat} {w0 w : World} {Q : Exit → Act → World → Prop} {vl : Value} {vn : Value} (hpan : PanQ Q) (hq : StartQ l A c w0 Q) (hR : Row w0 w0.heap.size 4 A l.length (acells l)) (hl : l.length ≤ 4000000) (hb : Below w0.heap.size w0 w)
    (hH : Hp w w0.heap.size (mk4 none none (lrow l.length vl) (lrow 1536 vn))) : wpAnyH Tryz.prog .any mops Q (fun _ => True) 4 #[true, false, true, true, true, true, false, false, false] ⟨(.slice A l.length c :: undef :: .slice none 0 0 :: undef :: undef :: undef :: .slice A l.length c :: undef :: .slice A l.length c :: .int .i64 (l.length : Int) :: vl :: vn :: undef :: undef :: undef :: undef :: undef :: undef :: undef :: undef :: undef :: undef :: undef :: undef :: undef :: undef :: undef :: undef :: undef :: undef :: undef :: undef :: undef :: undef :: undef :: undef :: undef :: undef :: undef :: undef :: undef :: undef :: undef :: undef :: undef :: undef :: undef :: undef :: undef :: undef :: []).toArray, []⟩ w := by
  refine held_node [1, 7] (by kernel_rfl) (by simp) ?_
  intro i hi
  have hi2 : i = 1 ∨ i = 7 := by simpa using hi
  clear hi
  rcases hi2 with rfl | rfl
  · refine held_op (o := ⟨some 7, .call { callee := .value (.func 68), args := #[.tmp 6], argTypes := #[57] }, _, _, _, none⟩) rfl rfl ?_
    intro K hK
    go_simp
    refine (pheld_any l A c w (hR.ext hb) hl).mono ?_
    rintro e w2 ⟨⟨vr, rfl, hown⟩, hb2⟩
    refine hK _ _ (nd_1110 hpan hq hR hl (ext_trans hb hb2) ?_)
    exact Hp.more (k := 1) hH (a' := .row 96 4 vr l.length (acells (Em.hold l))) rfl hb2 (own_base hown hb.size) (fun g hg => (hown.lt g hg).1) (fun j hj => by match j with | 0 | 2 | 3 | 4 | 5 | 6 => rfl | 1 => exact absurd rfl hj | _ + 7 => rfl) rfl
  · refine held_op (o := ⟨some 3, .alloc 117, _, _, _, none⟩) rfl rfl ?_
    intro K hK
    go_simp
    refine hK _ _ (nd_0111 hpan hq hR hl (hb.alloc hb.size _) ?_)
    exact Hp.more (k := 0) hH (a' := .blk w.heap.size mzero 117) rfl (ext_alloc w _) ⟨hb.size, heap_alloc_new w _⟩ (fun g hg => by have e : w.heap.size = g := Option.some.inj hg; omega) (fun j hj => by match j with | 0 => exact absurd rfl hj | 1 | 2 | 3 | 4 | 5 | 6 => rfl | _ + 7 => rfl) rfl

set_option maxHeartbeats 2000000 in
set_option maxRecDepth 100000 in
theorem nd_0101 {l : List Em.R} {A : Option Addr} {c : Nat} {w0 w : World} {Q : Exit → Act → World → Prop} {vl : Value} {b : Nat} (hpan : PanQ Q) (hq : StartQ l A c w0 Q) (hR : Row w0 w0.heap.size 4 A l.length (acells l)) (hl : l.length ≤ 4000000) (hb : Below w0.heap.size w0 w)
    (hH : Hp w w0.heap.size (mk4 (mblk b) none (lrow l.length vl) none)) : wpAnyH Tryz.prog .any mops Q (fun _ => True) 4 #[true, false, true, true, true, false, false, true, false] ⟨(.slice A l.length c :: undef :: .slice none 0 0 :: .pointer (some ⟨b, 0, none⟩) :: undef :: undef :: .slice A l.length c :: undef :: .slice A l.length c :: .int .i64 (l.length : Int) :: vl :: undef :: undef :: undef :: undef :: undef :: undef :: undef :: undef :: undef :: undef :: undef :: undef :: undef :: undef :: undef :: undef :: undef :: undef :: undef :: undef :: undef :: undef :: undef :: undef :: undef :: undef :: undef :: undef :: undef :: undef :: undef :: undef :: undef :: undef :: undef :: undef :: undef :: undef :: undef :: []).toArray, []⟩ w := by
  refine held_node [1, 5] (by kernel_rfl) (by simp) ?_
  intro i hi
  have hi2 : i = 1 ∨ i = 5 := by simpa using hi
  clear hi
  rcases hi2 with rfl | rfl
  · refine held_op (o := ⟨some 7, .call { callee := .value (.func 68), args := #[.tmp 6], argTypes := #[57] }, _, _, _, none⟩) rfl rfl ?_
    intro K hK
    go_simp
    refine (pheld_any l A c w (hR.ext hb) hl).mono ?_
    rintro e w2 ⟨⟨vr, rfl, hown⟩, hb2⟩
    refine hK _ _ (nd_1101 hpan hq hR hl (ext_trans hb hb2) ?_)
    exact Hp.more (k := 1) hH (a' := .row 96 4 vr l.length (acells (Em.hold l))) rfl hb2 (own_base hown hb.size) (fun g hg => (hown.lt g hg).1) (fun j hj => by match j with | 0 | 2 | 3 | 4 | 5 | 6 => rfl | 1 => exact absurd rfl hj | _ + 7 => rfl) rfl
  · refine held_op (o := ⟨some 11, .makeSlice 26 (.const (.int .i64 1536)) (.const (.int .i64 1536)), _, _, _, none⟩) rfl rfl ?_
    intro K hK
    have hmk : ∀ w, (Instr.makeSlice 26 (.int .i64 1536) (.int .i64 1536)).run Tryz.prog w = .ok (.slice (some ⟨w.heap.size, 0, none⟩) 1536 1536) (w.alloc (.cells (madeCells (Value.int .i64 0).cells (1536 * 1)) 3)) := fun w => run_mk pintEI (z := .int .i64 0) (by kernel_rfl) 1536 (by omega) (by omega) w
    have hown := Lib.hid (own_mk w w0.heap.size 1 1536 3 #[.int .i64 0] hb.size (by omega))
    replace hown := Lib.hid (by have := hown.out; rwa [zeros_int] at this)
    simp only [Value.cells] at hmk
    generalize madeCells _ (1536 * 1) = C at *
    go_simp
    refine hK _ _ (nd_0111 hpan hq hR hl (hb.alloc hb.size _) ?_)
    exact Hp.more (k := 4) hH (a' := .row 3 1 (.slice (some ⟨w.heap.size, 0, none⟩) 1536 1536) 1536 (lcells (List.replicate 1536 0))) rfl (ext_alloc w _) hown.out (fun g hg => by have e : w.heap.size = g := Option.some.inj hg; omega) (fun j hj => by match j with | 0 | 1 | 2 | 3 | 5 | 6 => rfl | 4 => exact absurd rfl hj | _ + 7 => rfl) rfl

set_option maxHeartbeats 2000000 in
set_option maxRecDepth 100000 in
theorem nd_0011 {l : List Em.R} {A : Option Addr} {c : Nat} {w0 w : World} {Q : Exit → Act → World → Prop} {vn : Value} {b : Nat} (hpan : PanQ Q) (hq : StartQ l A c w0 Q) (hR : Row w0 w0.heap.size 4 A l.length (acells l)) (hl : l.length ≤ 4000000) (hb : Below w0.heap.size w0 w)
    (hH : Hp w w0.heap.size (mk4 (mblk b) none none (lrow 1536 vn))) : wpAnyH Tryz.prog .any mops Q (fun _ => True) 4 #[true, false, true, true, false, true, false, true, false] ⟨(.slice A l.length c :: undef :: .slice none 0 0 :: .pointer (some ⟨b, 0, none⟩) :: undef :: undef :: .slice A l.length c :: undef :: .slice A l.length c :: .int .i64 (l.length : Int) :: undef :: vn :: undef :: undef :: undef :: undef :: undef :: undef :: undef :: undef :: undef :: undef :: undef :: undef :: undef :: undef :: undef :: undef :: undef :: undef :: undef :: undef :: undef :: undef :: undef :: undef :: undef :: undef :: undef :: undef :: undef :: undef :: undef :: undef :: undef :: undef :: undef :: undef :: undef :: undef :: []).toArray, []⟩ w := by
  refine held_node [1, 4] (by kernel_rfl) (by simp) ?_
  intro i hi
  have hi2 : i = 1 ∨ i = 4 := by simpa using hi
  clear hi
  rcases hi2 with rfl | rfl
  · refine held_op (o := ⟨some 7, .call { callee := .value (.func 68), args := #[.tmp 6], argTypes := #[57] }, _, _, _, none⟩) rfl rfl ?_
    intro K hK
    go_simp
    refine (pheld_any l A c w (hR.ext hb) hl).mono ?_
    rintro e w2 ⟨⟨vr, rfl, hown⟩, hb2⟩
    refine hK _ _ (nd_1011 hpan hq hR hl (ext_trans hb hb2) ?_)
    exact Hp.more (k := 1) hH (a' := .row 96 4 vr l.length (acells (Em.hold l))) rfl hb2 (own_base hown hb.size) (fun g hg => (hown.lt g hg).1) (fun j hj => by match j with | 0 | 2 | 3 | 4 | 5 | 6 => rfl | 1 => exact absurd rfl hj | _ + 7 => rfl) rfl
  · refine held_op (o := ⟨some 10, .makeSlice 26 (.tmp 9) (.tmp 9), _, _, _, none⟩) rfl rfl ?_
    intro K hK
    have hmk := fun w => run_mk pintEI (z := .int .i64 0) (by kernel_rfl) l.length (by omega) (by omega) w
    have hown := Lib.hid (own_mk w w0.heap.size 1 l.length 3 #[.int .i64 0] hb.size (by omega))
    replace hown := Lib.hid (by have := hown.out; rwa [zeros_int] at this)
    simp only [Value.cells] at hmk
    generalize madeCells _ (l.length * 1) = C at *
    go_simp
    refine hK _ _ (nd_0111 hpan hq hR hl (hb.alloc hb.size _) ?_)
    exact Hp.more (k := 2) hH (a' := .row 3 1 (.slice (some ⟨w.heap.size, 0, none⟩) l.length l.length) l.length (lcells (List.replicate l.length 0))) rfl (ext_alloc w _) hown.out (fun g hg => by have e : w.heap.size = g := Option.some.inj hg; omega) (fun j hj => by match j with | 0 | 1 | 3 | 4 | 5 | 6 => rfl | 2 => exact absurd rfl hj | _ + 7 => rfl) rfl

set_option maxHeartbeats 2000000 in
set_option maxRecDepth 100000 in
theorem nd_1000 {l : List Em.R} {A : Option Addr} {c : Nat} {w0 w : World} {Q : Exit → Act → World → Prop} {vr : Value} (hpan : PanQ Q) (hq : StartQ l A c w0 Q) (hR : Row w0 w0.heap.size 4 A l.length (acells l)) (hl : l.length ≤ 4000000) (hb : Below w0.heap.size w0 w)
    (hH : Hp w w0.heap.size (mk4 none (prow l vr) none none)) : wpAnyH Tryz.prog .any mops Q (fun _ => True) 5 #[true, true, true, true, false, false, false, false, false] ⟨(.slice A l.length c :: undef :: .slice none 0 0 :: undef :: undef :: undef :: .slice A l.length c :: vr :: .slice A l.length c :: .int .i64 (l.length : Int) :: undef :: undef :: undef :: undef :: undef :: undef :: undef :: undef :: undef :: undef :: undef :: undef :: undef :: undef :: undef :: undef :: undef :: undef :: undef :: undef :: undef :: undef :: undef :: undef :: undef :: undef :: undef :: undef :: undef :: undef :: undef :: undef :: undef :: undef :: undef :: undef :: undef :: undef :: undef :: undef :: []).toArray, []⟩ w := by
  refine held_node [4, 5, 7] (by kernel_rfl) (by simp) ?_
  intro i hi
  have hi2 : i = 4 ∨ i = 5 ∨ i = 7 := by simpa using hi
  clear hi
  rcases hi2 with rfl | rfl | rfl
  · refine held_op (o := ⟨some 10, .makeSlice 26 (.tmp 9) (.tmp 9), _, _, _, none⟩) rfl rfl ?_
    intro K hK
    have hmk := fun w => run_mk pintEI (z := .int .i64 0) (by kernel_rfl) l.length (by omega) (by omega) w
    have hown := Lib.hid (own_mk w w0.heap.size 1 l.length 3 #[.int .i64 0] hb.size (by omega))
    replace hown := Lib.hid (by have := hown.out; rwa [zeros_int] at this)
    simp only [Value.cells] at hmk
    generalize madeCells _ (l.length * 1) = C at *
    go_simp
    refine hK _ _ (nd_1100 hpan hq hR hl (hb.alloc hb.size _) ?_)
    exact Hp.more (k := 2) hH (a' := .row 3 1 (.slice (some ⟨w.heap.size, 0, none⟩) l.length l.length) l.length (lcells (List.replicate l.length 0))) rfl (ext_alloc w _) hown.out (fun g hg => by have e : w.heap.size = g := Option.some.inj hg; omega) (fun j hj => by match j with | 0 | 1 | 3 | 4 | 5 | 6 => rfl | 2 => exact absurd rfl hj | _ + 7 => rfl) rfl
  · refine held_op (o := ⟨some 11, .makeSlice 26 (.const (.int .i64 1536)) (.const (.int .i64 1536)), _, _, _, none⟩) rfl rfl ?_
    intro K hK
    have hmk : ∀ w, (Instr.makeSlice 26 (.int .i64 1536) (.int .i64 1536)).run Tryz.prog w = .ok (.slice (some ⟨w.heap.size, 0, none⟩) 1536 1536) (w.alloc (.cells (madeCells (Value.int .i64 0).cells (1536 * 1)) 3)) := fun w => run_mk pintEI (z := .int .i64 0) (by kernel_rfl) 1536 (by omega) (by omega) w
    have hown := Lib.hid (own_mk w w0.heap.size 1 1536 3 #[.int .i64 0] hb.size (by omega))
    replace hown := Lib.hid (by have := hown.out; rwa [zeros_int] at this)
    simp only [Value.cells] at hmk
    generalize madeCells _ (1536 * 1) = C at *
    go_simp
    refine hK _ _ (nd_1010 hpan hq hR hl (hb.alloc hb.size _) ?_)
    exact Hp.more (k := 4) hH (a' := .row 3 1 (.slice (some ⟨w.heap.size, 0, none⟩) 1536 1536) 1536 (lcells (List.replicate 1536 0))) rfl (ext_alloc w _) hown.out (fun g hg => by have e : w.heap.size = g := Option.some.inj hg; omega) (fun j hj => by match j with | 0 | 1 | 2 | 3 | 5 | 6 => rfl | 4 => exact absurd rfl hj | _ + 7 => rfl) rfl
  · refine held_op (o := ⟨some 3, .alloc 117, _, _, _, none⟩) rfl rfl ?_
    intro K hK
    go_simp
    refine hK _ _ (nd_1001 hpan hq hR hl (hb.alloc hb.size _) ?_)
    exact Hp.more (k := 0) hH (a' := .blk w.heap.size mzero 117) rfl (ext_alloc w _) ⟨hb.size, heap_alloc_new w _⟩ (fun g hg => by have e : w.heap.size = g := Option.some.inj hg; omega) (fun j hj => by match j with | 0 => exact absurd rfl hj | 1 | 2 | 3 | 4 | 5 | 6 => rfl | _ + 7 => rfl) rfl

set_option maxHeartbeats 2000000 in
set_option maxRecDepth 100000 in
theorem nd_0100 {l : List Em.R} {A : Option Addr} {c : Nat} {w0 w : World} {Q : Exit → Act → World → Prop} {vl : Value} (hpan : PanQ Q) (hq : StartQ l A c w0 Q) (hR : Row w0 w0.heap.size 4 A l.length (acells l)) (hl : l.length ≤ 4000000) (hb : Below w0.heap.size w0 w)
    (hH : Hp w w0.heap.size (mk4 none none (lrow l.length vl) none)) : wpAnyH Tryz.prog .any mops Q (fun _ => True) 5 #[true, false, true, true, true, false, false, false, false] ⟨(.slice A l.length c :: undef :: .slice none 0 0 :: undef :: undef :: undef :: .slice A l.length c :: undef :: .slice A l.length c :: .int .i64 (l.length : Int) :: vl :: undef :: undef :: undef :: undef :: undef :: undef :: undef :: undef :: undef :: undef :: undef :: undef :: undef :: undef :: undef :: undef :: undef :: undef :: undef :: undef :: undef :: undef :: undef :: undef :: undef :: undef :: undef :: undef :: undef :: undef :: undef :: undef :: undef :: undef :: undef :: undef :: undef :: undef :: undef :: []).toArray, []⟩ w := by
  refine held_node [1, 5, 7] (by kernel_rfl) (by simp) ?_
  intro i hi
  have hi2 : i = 1 ∨ i = 5 ∨ i = 7 := by simpa using hi
  clear hi
  rcases hi2 with rfl | rfl | rfl
  · refine held_op (o := ⟨some 7, .call { callee := .value (.func 68), args := #[.tmp 6], argTypes := #[57] }, _, _, _, none⟩) rfl rfl ?_
    intro K hK
    go_simp
    refine (pheld_any l A c w (hR.ext hb) hl).mono ?_
    rintro e w2 ⟨⟨vr, rfl, hown⟩, hb2⟩
    refine hK _ _ (nd_1100 hpan hq hR hl (ext_trans hb hb2) ?_)
    exact Hp.more (k := 1) hH (a' := .row 96 4 vr l.length (acells (Em.hold l))) rfl hb2 (own_base hown hb.size) (fun g hg => (hown.lt g hg).1) (fun j hj => by match j with | 0 | 2 | 3 | 4 | 5 | 6 => rfl | 1 => exact absurd rfl hj | _ + 7 => rfl) rfl
  · refine held_op (o := ⟨some 11, .makeSlice 26 (.const (.int .i64 1536)) (.const (.int .i64 1536)), _, _, _, none⟩) rfl rfl ?_
    intro K hK
    have hmk : ∀ w, (Instr.makeSlice 26 (.int .i64 1536) (.int .i64 1536)).run Tryz.prog w = .ok (.slice (some ⟨w.heap.size, 0, none⟩) 1536 1536) (w.alloc (.cells (madeCells (Value.int .i64 0).cells (1536 * 1)) 3)) := fun w => run_mk pintEI (z := .int .i64 0) (by kernel_rfl) 1536 (by omega) (by omega) w
    have hown := Lib.hid (own_mk w w0.heap.size 1 1536 3 #[.int .i64 0] hb.size (by omega))
    replace hown := Lib.hid (by have := hown.out; rwa [zeros_int] at this)
    simp only [Value.cells] at hmk
    generalize madeCells _ (1536 * 1) = C at *
    go_simp
    refine hK _ _ (nd_0110 hpan hq hR hl (hb.alloc hb.size _) ?_)
    exact Hp.more (k := 4) hH (a' := .row 3 1 (.slice (some ⟨w.heap.size, 0, none⟩) 1536 1536) 1536 (lcells (List.replicate 1536 0))) rfl (ext_alloc w _) hown.out (fun g hg => by have e : w.heap.size = g := Option.some.inj hg; omega) (fun j hj => by match j with | 0 | 1 | 2 | 3 | 5 | 6 => rfl | 4 => exact absurd rfl hj | _ + 7 => rfl) rfl
  · refine held_op (o := ⟨some 3, .alloc 117, _, _, _, none⟩) rfl rfl ?_
    intro K hK
    go_simp
    refine hK _ _ (nd_0101 hpan hq hR hl (hb.alloc hb.size _) ?_)
    exact Hp.more (k := 0) hH (a' := .blk w.heap.size mzero 117) rfl (ext_alloc w _) ⟨hb.size, heap_alloc_new w _⟩ (fun g hg => by have e : w.heap.size = g := Option.some.inj hg; omega) (fun j hj => by match j with | 0 => exact absurd rfl hj | 1 | 2 | 3 | 4 | 5 | 6 => rfl | _ + 7 => rfl) rfl

set_option maxHeartbeats 2000000 in
set_option maxRecDepth 100000 in
theorem nd_0010 {l : List Em.R} {A : Option Addr} {c : Nat} {w0 w : World} {Q : Exit → Act → World → Prop} {vn : Value} (hpan : PanQ Q) (hq : StartQ l A c w0 Q) (hR : Row w0 w0.heap.size 4 A l.length (acells l)) (hl : l.length ≤ 4000000) (hb : Below w0.heap.size w0 w)
    (hH : Hp w w0.heap.size (mk4 none none none (lrow 1536 vn))) : wpAnyH Tryz.prog .any mops Q (fun _ => True) 5 #[true, false, true, true, false, true, false, false, false] ⟨(.slice A l.length c :: undef :: .slice none 0 0 :: undef :: undef :: undef :: .slice A l.length c :: undef :: .slice A l.length c :: .int .i64 (l.length : Int) :: undef :: vn :: undef :: undef :: undef :: undef :: undef :: undef :: undef :: undef :: undef :: undef :: undef :: undef :: undef :: undef :: undef :: undef :: undef :: undef :: undef :: undef :: undef :: undef :: undef :: undef :: undef :: undef :: undef :: undef :: undef :: undef :: undef :: undef :: undef :: undef :: undef :: undef :: undef :: undef :: []).toArray, []⟩ w := by
  refine held_node [1, 4, 7] (by kernel_rfl) (by simp) ?_
  intro i hi
  have hi2 : i = 1 ∨ i = 4 ∨ i = 7 := by simpa using hi
  clear hi
  rcases hi2 with rfl | rfl | rfl
  · refine held_op (o := ⟨some 7, .call { callee := .value (.func 68), args := #[.tmp 6], argTypes := #[57] }, _, _, _, none⟩) rfl rfl ?_
    intro K hK
    go_simp
    refine (pheld_any l A c w (hR.ext hb) hl).mono ?_
    rintro e w2 ⟨⟨vr, rfl, hown⟩, hb2⟩
    refine hK _ _ (nd_1010 hpan hq hR hl (ext_trans hb hb2) ?_)
    exact Hp.more (k := 1) hH (a' := .row 96 4 vr l.length (acells (Em.hold l))) rfl hb2 (own_base hown hb.size) (fun g hg => (hown.lt g hg).1) (fun j hj => by match j with | 0 | 2 | 3 | 4 | 5 | 6 => rfl | 1 => exact absurd rfl hj | _ + 7 => rfl) rfl
  · refine held_op (o := ⟨some 10, .makeSlice 26 (.tmp 9) (.tmp 9), _, _, _, none⟩) rfl rfl ?_
    intro K hK
    have hmk := fun w => run_mk pintEI (z := .int .i64 0) (by kernel_rfl) l.length (by omega) (by omega) w
    have hown := Lib.hid (own_mk w w0.heap.size 1 l.length 3 #[.int .i64 0] hb.size (by omega))
    replace hown := Lib.hid (by have := hown.out; rwa [zeros_int] at this)
    simp only [Value.cells] at hmk
    generalize madeCells _ (l.length * 1) = C at *
    go_simp
    refine hK _ _ (nd_0110 hpan hq hR hl (hb.alloc hb.size _) ?_)
    exact Hp.more (k := 2) hH (a' := .row 3 1 (.slice (some ⟨w.heap.size, 0, none⟩) l.length l.length) l.length (lcells (List.replicate l.length 0))) rfl (ext_alloc w _) hown.out (fun g hg => by have e : w.heap.size = g := Option.some.inj hg; omega) (fun j hj => by match j with | 0 | 1 | 3 | 4 | 5 | 6 => rfl | 2 => exact absurd rfl hj | _ + 7 => rfl) rfl
  · refine held_op (o := ⟨some 3, .alloc 117, _, _, _, none⟩) rfl rfl ?_
    intro K hK
    go_simp
    refine hK _ _ (nd_0011 hpan hq hR hl (hb.alloc hb.size _) ?_)
    exact Hp.more (k := 0) hH (a' := .blk w.heap.size mzero 117) rfl (ext_alloc w _) ⟨hb.size, heap_alloc_new w _⟩ (fun g hg => by have e : w.heap.size = g := Option.some.inj hg; omega) (fun j hj => by match j with | 0 => exact absurd rfl hj | 1 | 2 | 3 | 4 | 5 | 6 => rfl | _ + 7 => rfl) rfl

set_option maxHeartbeats 2000000 in
set_option maxRecDepth 100000 in
theorem nd_0001 {l : List Em.R} {A : Option Addr} {c : Nat} {w0 w : World} {Q : Exit → Act → World → Prop} {b : Nat} (hpan : PanQ Q) (hq : StartQ l A c w0 Q) (hR : Row w0 w0.heap.size 4 A l.length (acells l)) (hl : l.length ≤ 4000000) (hb : Below w0.heap.size w0 w)
    (hH : Hp w w0.heap.size (mk4 (mblk b) none none none)) : wpAnyH Tryz.prog .any mops Q (fun _ => True) 5 #[true, false, true, true, false, false, false, true, false] ⟨(.slice A l.length c :: undef :: .slice none 0 0 :: .pointer (some ⟨b, 0, none⟩) :: undef :: undef :: .slice A l.length c :: undef :: .slice A l.length c :: .int .i64 (l.length : Int) :: undef :: undef :: undef :: undef :: undef :: undef :: undef :: undef :: undef :: undef :: undef :: undef :: undef :: undef :: undef :: undef :: undef :: undef :: undef :: undef :: undef :: undef :: undef :: undef :: undef :: undef :: undef :: undef :: undef :: undef :: undef :: undef :: undef :: undef :: undef :: undef :: undef :: undef :: undef :: undef :: []).toArray, []⟩ w := by
  refine held_node [1, 4, 5] (by kernel_rfl) (by simp) ?_
  intro i hi
  have hi2 : i = 1 ∨ i = 4 ∨ i = 5 := by simpa using hi
  clear hi
  rcases hi2 with rfl | rfl | rfl
  · refine held_op (o := ⟨some 7, .call { callee := .value (.func 68), args := #[.tmp 6], argTypes := #[57] }, _, _, _, none⟩) rfl rfl ?_
    intro K hK
    go_simp
    refine (pheld_any l A c w (hR.ext hb) hl).mono ?_
    rintro e w2 ⟨⟨vr, rfl, hown⟩, hb2⟩
    refine hK _ _ (nd_1001 hpan hq hR hl (ext_trans hb hb2) ?_)
    exact Hp.more (k := 1) hH (a' := .row 96 4 vr l.length (acells (Em.hold l))) rfl hb2 (own_base hown hb.size) (fun g hg => (hown.lt g hg).1) (fun j hj => by match j with | 0 | 2 | 3 | 4 | 5 | 6 => rfl | 1 => exact absurd rfl hj | _ + 7 => rfl) rfl
  · refine held_op (o := ⟨some 10, .makeSlice 26 (.tmp 9) (.tmp 9), _, _, _, none⟩) rfl rfl ?_
    intro K hK
    have hmk := fun w => run_mk pintEI (z := .int .i64 0) (by kernel_rfl) l.length (by omega) (by omega) w
    have hown := Lib.hid (own_mk w w0.heap.size 1 l.length 3 #[.int .i64 0] hb.size (by omega))
    replace hown := Lib.hid (by have := hown.out; rwa [zeros_int] at this)
    simp only [Value.cells] at hmk
    generalize madeCells _ (l.length * 1) = C at *
    go_simp
    refine hK _ _ (nd_0101 hpan hq hR hl (hb.alloc hb.size _) ?_)
    exact Hp.more (k := 2) hH (a' := .row 3 1 (.slice (some ⟨w.heap.size, 0, none⟩) l.length l.length) l.length (lcells (List.replicate l.length 0))) rfl (ext_alloc w _) hown.out (fun g hg => by have e : w.heap.size = g := Option.some.inj hg; omega) (fun j hj => by match j with | 0 | 1 | 3 | 4 | 5 | 6 => rfl | 2 => exact absurd rfl hj | _ + 7 => rfl) rfl
  · refine held_op (o := ⟨some 11, .makeSlice 26 (.const (.int .i64 1536)) (.const (.int .i64 1536)), _, _, _, none⟩) rfl rfl ?_
    intro K hK
    have hmk : ∀ w, (Instr.makeSlice 26 (.int .i64 1536) (.int .i64 1536)).run Tryz.prog w = .ok (.slice (some ⟨w.heap.size, 0, none⟩) 1536 1536) (w.alloc (.cells (madeCells (Value.int .i64 0).cells (1536 * 1)) 3)) := fun w => run_mk pintEI (z := .int .i64 0) (by kernel_rfl) 1536 (by omega) (by omega) w
    have hown := Lib.hid (own_mk w w0.heap.size 1 1536 3 #[.int .i64 0] hb.size (by omega))
    replace hown := Lib.hid (by have := hown.out; rwa [zeros_int] at this)
    simp only [Value.cells] at hmk
    generalize madeCells _ (1536 * 1) = C at *
    go_simp
    refine hK _ _ (nd_0011 hpan hq hR hl (hb.alloc hb.size _) ?_)
    exact Hp.more (k := 4) hH (a' := .row 3 1 (.slice (some ⟨w.heap.size, 0, none⟩) 1536 1536) 1536 (lcells (List.replicate 1536 0))) rfl (ext_alloc w _) hown.out (fun g hg => by have e : w.heap.size = g := Option.some.inj hg; omega) (fun j hj => by match j with | 0 | 1 | 2 | 3 | 5 | 6 => rfl | 4 => exact absurd rfl hj | _ + 7 => rfl) rfl

set_option maxHeartbeats 2000000 in
set_option maxRecDepth 100000 in
theorem nd_0000 {l : List Em.R} {A : Option Addr} {c : Nat} {w0 w : World} {Q : Exit → Act → World → Prop} (hpan : PanQ Q) (hq : StartQ l A c w0 Q) (hR : Row w0 w0.heap.size 4 A l.length (acells l)) (hl : l.length ≤ 4000000) (hb : Below w0.heap.size w0 w)
    (hH : Hp w w0.heap.size (mk4 none none none none)) : wpAnyH Tryz.prog .any mops Q (fun _ => True) 6 #[true, false, true, true, false, false, false, false, false] ⟨(.slice A l.length c :: undef :: .slice none 0 0 :: undef :: undef :: undef :: .slice A l.length c :: undef :: .slice A l.length c :: .int .i64 (l.length : Int) :: undef :: undef :: undef :: undef :: undef :: undef :: undef :: undef :: undef :: undef :: undef :: undef :: undef :: undef :: undef :: undef :: undef :: undef :: undef :: undef :: undef :: undef :: undef :: undef :: undef :: undef :: undef :: undef :: undef :: undef :: undef :: undef :: undef :: undef :: undef :: undef :: undef :: undef :: undef :: undef :: []).toArray, []⟩ w := by
  refine held_node [1, 4, 5, 7] (by kernel_rfl) (by simp) ?_
  intro i hi
  have hi2 : i = 1 ∨ i = 4 ∨ i = 5 ∨ i = 7 := by simpa using hi
  clear hi
  rcases hi2 with rfl | rfl | rfl | rfl
  · refine held_op (o := ⟨some 7, .call { callee := .value (.func 68), args := #[.tmp 6], argTypes := #[57] }, _, _, _, none⟩) rfl rfl ?_
    intro K hK
    go_simp
    refine (pheld_any l A c w (hR.ext hb) hl).mono ?_
    rintro e w2 ⟨⟨vr, rfl, hown⟩, hb2⟩
    refine hK _ _ (nd_1000 hpan hq hR hl (ext_trans hb hb2) ?_)
    exact Hp.more (k := 1) hH (a' := .row 96 4 vr l.length (acells (Em.hold l))) rfl hb2 (own_base hown hb.size) (fun g hg => (hown.lt g hg).1) (fun j hj => by match j with | 0 | 2 | 3 | 4 | 5 | 6 => rfl | 1 => exact absurd rfl hj | _ + 7 => rfl) rfl
  · refine held_op (o := ⟨some 10, .makeSlice 26 (.tmp 9) (.tmp 9), _, _, _, none⟩) rfl rfl ?_
    intro K hK
    have hmk := fun w => run_mk pintEI (z := .int .i64 0) (by kernel_rfl) l.length (by omega) (by omega) w
    have hown := Lib.hid (own_mk w w0.heap.size 1 l.length 3 #[.int .i64 0] hb.size (by omega))
    replace hown := Lib.hid (by have := hown.out; rwa [zeros_int] at this)
    simp only [Value.cells] at hmk
    generalize madeCells _ (l.length * 1) = C at *
    go_simp
    refine hK _ _ (nd_0100 hpan hq hR hl (hb.alloc hb.size _) ?_)
    exact Hp.more (k := 2) hH (a' := .row 3 1 (.slice (some ⟨w.heap.size, 0, none⟩) l.length l.length) l.length (lcells (List.replicate l.length 0))) rfl (ext_alloc w _) hown.out (fun g hg => by have e : w.heap.size = g := Option.some.inj hg; omega) (fun j hj => by match j with | 0 | 1 | 3 | 4 | 5 | 6 => rfl | 2 => exact absurd rfl hj | _ + 7 => rfl) rfl
  · refine held_op (o := ⟨some 11, .makeSlice 26 (.const (.int .i64 1536)) (.const (.int .i64 1536)), _, _, _, none⟩) rfl rfl ?_
    intro K hK
    have hmk : ∀ w, (Instr.makeSlice 26 (.int .i64 1536) (.int .i64 1536)).run Tryz.prog w = .ok (.slice (some ⟨w.heap.size, 0, none⟩) 1536 1536) (w.alloc (.cells (madeCells (Value.int .i64 0).cells (1536 * 1)) 3)) := fun w => run_mk pintEI (z := .int .i64 0) (by kernel_rfl) 1536 (by omega) (by omega) w
    have hown := Lib.hid (own_mk w w0.heap.size 1 1536 3 #[.int .i64 0] hb.size (by omega))
    replace hown := Lib.hid (by have := hown.out; rwa [zeros_int] at this)
    simp only [Value.cells] at hmk
    generalize madeCells _ (1536 * 1) = C at *
    go_simp
    refine hK _ _ (nd_0010 hpan hq hR hl (hb.alloc hb.size _) ?_)
    exact Hp.more (k := 4) hH (a' := .row 3 1 (.slice (some ⟨w.heap.size, 0, none⟩) 1536 1536) 1536 (lcells (List.replicate 1536 0))) rfl (ext_alloc w _) hown.out (fun g hg => by have e : w.heap.size = g := Option.some.inj hg; omega) (fun j hj => by match j with | 0 | 1 | 2 | 3 | 5 | 6 => rfl | 4 => exact absurd rfl hj | _ + 7 => rfl) rfl
  · refine held_op (o := ⟨some 3, .alloc 117, _, _, _, none⟩) rfl rfl ?_
    intro K hK
    go_simp
    refine hK _ _ (nd_0001 hpan hq hR hl (hb.alloc hb.size _) ?_)
    exact Hp.more (k := 0) hH (a' := .blk w.heap.size mzero 117) rfl (ext_alloc w _) ⟨hb.size, heap_alloc_new w _⟩ (fun g hg => by have e : w.heap.size = g := Option.some.inj hg; omega) (fun j hj => by match j with | 0 => exact absurd rfl hj | 1 | 2 | 3 | 4 | 5 | 6 => rfl | _ + 7 => rfl) rfl

set_option maxHeartbeats 2000000 in
set_option maxRecDepth 100000 in
/-- the whole region -/
theorem pm_start {l : List Em.R} {A : Option Addr} {c : Nat} {w0 : World} {Q : Exit → Act → World → Prop} (hpan : PanQ Q) (hq : StartQ l A c w0 Q) (hR : Row w0 w0.heap.size 4 A l.length (acells l)) (hl : l.length ≤ 4000000) :
    Code.wp Tryz.prog (regionAt Tryz.f44 1) Q ⟨(.slice A l.length c :: undef :: .slice none 0 0 :: undef :: undef :: undef :: undef :: undef :: undef :: undef :: undef :: undef :: undef :: undef :: undef :: undef :: undef :: undef :: undef :: undef :: undef :: undef :: undef :: undef :: undef :: undef :: undef :: undef :: undef :: undef :: undef :: undef :: undef :: undef :: undef :: undef :: undef :: undef :: undef :: undef :: undef :: undef :: undef :: undef :: undef :: undef :: undef :: undef :: undef :: undef :: []).toArray, []⟩ w0 := by
  show Code.wp Tryz.prog (Code.region 1 mops true) Q _ w0
  refine wp_region_held (S := fun _ => True) (by kernel_rfl) ?_
  show wpAnyH Tryz.prog .any mops Q (fun _ => True) 9 #[false, false, false, false, false, false, false, false, false] _ _
  refine held_rd (i := 0) (o := ⟨some 6, .move (.tmp 0), _, _, _, none⟩) (.slice A l.length c) rfl rfl (by kernel_rfl) (by kernel_rfl) (by kernel_rfl) hpan (fun w' => by go_simp) ?_
  refine held_rd (i := 2) (o := ⟨some 8, .move (.tmp 0), _, _, _, none⟩) (.slice A l.length c) rfl rfl (by kernel_rfl) (by kernel_rfl) (by kernel_rfl) hpan (fun w' => by go_simp) ?_
  refine held_rd (i := 3) (o := ⟨some 9, .call { callee := .builtin .len, args := #[.tmp 8], argTypes := #[57] }, _, _, _, none⟩) (.int .i64 (l.length : Int)) rfl rfl (by kernel_rfl) (by kernel_rfl) (by kernel_rfl) hpan (fun w' => by go_simp) ?_
  exact nd_0000 hpan hq hR hl (Below.refl _ _).drew (mk4_none _ _)
end Go.Proofs.YtkfhkfagmokjpaaGreatDoor
end

namespace Go.Proofs.YtkfhkfagmokjpaaGreatDoor
open Go.RowKit

/-- behind so many pairs -/
def StressAt (l : List Il.Pt) (X : List (Nat × Nat × Nat)) (base : Nat) (vX : Value) (B1 : Nat) (w : World) (v u : Value) (wr : World) : Prop :=
  ∃ (k : Nat) (css : List (List Value)), k ≤ X.length ∧ u = .int .i64 (k : Int) ∧ Hid (wr.ownsRow base 68 7 v (Il.behindP l X k).length css.flatten) ∧ Hid (PCs wr (IlQB base v wr) (Il.behindP l X k) css) ∧
    Hid (wr.ownsRow B1 108 3 vX X.length (pcells X)) ∧ Hid (Apart vX v) ∧ Hid (Below base w wr)

set_option maxHeartbeats 16000000 in
set_option maxRecDepth 100000 in
theorem rstress_any (l : List Il.Pt) (runs : List Em.R) (A Ar : Option Addr) (c cr : Nat) (css : List (List Value)) (w : World) (base : Nat) (hbase : base ≤ w.heap.size) (hown : w.ownsRow base 68 7 (.slice A l.length c) l.length css.flatten)
    (hP : PCs w (IlQB base (.slice A l.length c) w) l css) (hRr : Row w w.heap.size 4 Ar runs.length (acells runs)) (hrl : runs.length ≤ 4000000) (hrd : Il.Ready l runs) (hl : l.length ≤ 500000000) (hh : Il.heft l ≤ 1000000000) :
    Calls Tryz.prog 33 #[.slice A l.length c, .slice Ar runs.length cr] w fun e w' =>
      (∃ v, e = .returned v ∧ ∃ css2, w'.ownsRow base 41 4 v (Il.stress l runs).length css2.flatten ∧ ICs w' (fun b => base ≤ b ∧ b < w'.heap.size) (Il.stress l runs) css2) ∧ Below base w w' := by
  have hbd := Em.bd_pairs runs
  have q0 := fun wz hz => rmatch_any runs Ar cr wz hz hrl
  have hall := Il.holds_all hrd
  have hgood := Il.good_pairs runs
  have husd := Il.used_le hrd.pos
  have hcnt := Il.cnt_le hrd.pos
  obtain ⟨fin, hfin⟩ : ∃ fin, fin = Il.stress l runs := ⟨_, rfl⟩
  have hfin2 : fin = Il.settle (Il.behindP l (Em.pairs runs) (Em.pairs runs).length) := by rw [hfin]; unfold Il.stress Il.behindP; rw [List.take_of_length_le (Nat.le_refl _)]
  rw [← hfin]
  clear hfin
  generalize Em.pairs runs = X at *
  have hown0 := Lib.hid hown
  have hP0 := Lib.hid hP
  have hXl : X.length ≤ 400000000 := by omega
  replace hall := Lib.hid hall
  replace hgood := Lib.hid hgood
  replace husd := Lib.hid husd
  replace hcnt := Lib.hid hcnt
  replace hfin2 := Lib.hid hfin2
  clear hown hP hrd hbd
  go_enter Tryz.func33, Tryz.ntmps33
  go_wp2_with fail
  refine (q0 _ hRr).mono ?_
  rintro e w1 ⟨⟨vX, rfl, hX⟩, hb1⟩
  clear q0 hRr
  have hz1 := hb1.size
  obtain ⟨AX, cX, rfl, hcX⟩ := own_shape hX
  have hXo := Lib.hid hX
  have hown1 := Lib.hid (own_below hown0.out hb1)
  have hP1 := Lib.hid (PCs_ext hb1 hP0.out)
  have hB1 := Lib.hid (hb1.mono hbase)
  have hap := Lib.hid (show Apart (.slice AX X.length cX) (.slice A l.length c) from fun g h1 h2 => by
    have e1 := (hX.lt g h1).1
    have e2 := (hown0.out.lt g h2).2
    omega)
  have hStart : StressAt l X base (.slice AX X.length cX) w.heap.size w (.slice A l.length c) (.int .i64 0) w1 := ⟨0, css, Nat.zero_le _, rfl, hown1, hP1, hXo, hap, hB1⟩
  clear hown0 hP0 hX hown1 hP1 hXo hap hB1 hb1
  go_wp2_with fail
  go_loopw [0, 15] (fun v u wr => StressAt l X base (.slice AX X.length cX) w.heap.size w v u wr) (fun _ u _ => X.length - (intOf u).toNat)
  case atStart => exact hStart
  case round =>
    obtain ⟨k, cs, hk, rfl, hoK, hPK, hoX, hapK, hBK⟩ := hrel
    clear hStart
    obtain ⟨lk, hlk⟩ : ∃ lk, lk = Il.behindP l X k := ⟨_, rfl⟩
    have hlen := (hall.out k hk).len
    have hheft := (hall.out k hk).heft
    rw [← hlk] at hoK hPK hlen hheft
    by_cases hkX : k < X.length
    · obtain ⟨a, b, s, hx⟩ : ∃ a b s, X[k] = (a, b, s) := ⟨_, _, _, rfl⟩
      have hxg := hgood.out _ (List.getElem_mem hkX)
      have hth := (hall.out k hk).there k hkX (Nat.le_refl _)
      have hnx := Il.behind_next (l := l) hkX
      have htwo := Il.left_two (hall.out k hk).left (a := a) (b := b) (s := s) (fun r => by
        rw [← hx, ← List.take_succ_eq_append_getElem hkX]
        exact Nat.le_trans (Il.used_part _ _ _) (husd.out r)) (hall.out k hk).sorted (by rw [hx] at hth; exact hth.1) (by rw [hx] at hth; exact hth.2) (by rw [hx] at hxg; exact hxg.1)
      rw [← hlk] at hnx htwo
      rw [hx] at hnx hxg
      simp only at hxg
      have hca := hcnt.out a
      have hcb := hcnt.out b
      obtain ⟨oa, ob, hoa, hob, h12, h2, PA, PB, hpa, hpb, hsa, hsb, hna, hnb⟩ : ∃ oa ob, oa = Il.place lk a ∧ ob = Il.place lk b ∧ oa < ob ∧ ob < lk.length ∧ ∃ PA PB : Il.Pt, lk[oa]? = some PA ∧ lk[ob]? = some PB ∧ s ≤ PA.left ∧ s ≤ PB.left ∧ PA.left ≤ 1000000000 ∧ PB.left ≤ 1000000000 := by
        obtain ⟨h1, h2, h12, hsa, hsb, hna, hnb, _, _⟩ := htwo
        exact ⟨_, _, rfl, rfl, h12, h2, _, _, List.getElem?_eq_getElem h1, List.getElem?_eq_getElem h2, hsa, hsb, by omega, by omega⟩
      obtain ⟨g, cv, rfl, hcv, hgb, hgw⟩ := il_some hoK.out (show 0 < lk.length by omega)
      obtain ⟨gX, cX', hvX, _, hXB, hXw⟩ := il_some hoX.out (show 0 < X.length by omega)
      injection hvX with hAX _ hcc
      subst hAX hcc
      have hgne : gX ≠ g := fun e => hapK.out gX rfl (by rw [e]; rfl)
      have hat := fun i (hi : i < 3) => flat_at (f := pcell) (m := 3) (fun _ => rfl) X k i hkX hi
      have c0 := il_own_cell hoX.out ((hat 0 (by omega)).trans (by rw [hx]; rfl))
      have c1 := il_own_cell hoX.out ((hat 1 (by omega)).trans (by rw [hx]; rfl))
      have c2 := il_own_cell hoX.out ((hat 2 (by omega)).trans (by rw [hx]; rfl))
      rw [Nat.add_zero] at c0
      have hzr := hBK.out.size
      replace hoa := Lib.hid hoa
      replace hob := Lib.hid hob
      replace hnx := Lib.hid hnx
      replace hlk := Lib.hid hlk
      replace hx := Lib.hid hx
      replace hpa := Lib.hid hpa
      replace hpb := Lib.hid hpb
      clear hat hth htwo hca hcb
      go_upto_region 4 with fail
      generalize hw2 : World.alloc wr _ = w2
      have hb2 : Ext wr w2 := by rw [← hw2]; exact ext_alloc _ _
      have hloc2 : w2.heap[wr.heap.size]? = some (.cells #[.int .i64 (a : Int), .int .i64 (b : Int), .int .i64 (s : Int)] 108 (0, 0)) := by rw [← hw2]; exact heap_alloc_new _ _
      have x0 : w2.cell? ⟨wr.heap.size, 0, none⟩ = some (.int .i64 (a : Int)) := blk_cell hloc2 0
      have x1 : w2.cell? ⟨wr.heap.size, 1, none⟩ = some (.int .i64 (b : Int)) := blk_cell hloc2 1
      have hgx2 : wr.heap.size < w2.heap.size := (Array.getElem?_eq_some_iff.1 hloc2).1
      have ho2 := own_below hoK.out hb2
      have hP2 := PCs_ext hb2 hPK.out
      have hX2 := Lib.hid (own_below hoX.out hb2)
      have hB2 := Lib.hid (hBK.out.trans (hb2.mono (by omega)))
      have hgxg : wr.heap.size ≠ g := by omega
      have hgxX : wr.heap.size ≠ gX := by omega
      clear hw2 c0 c1 c2 hoK hPK hoX hBK hb2 hgw hXw hzr
      generalize wr.heap.size = gx at *
      refine stress_places lk a b gx (some ⟨g, 0, none⟩) cv cs w2 (fun b => base ≤ b ∧ b < w2.heap.size) (fun b hb => hb.2) (by omega) (own_rowI ho2) (PCs_frame (fun _ _ => rfl) (fun b hb => ⟨hb.1, hb.2.1⟩) hP2) hgx2 x0 x1 _ _ _ _ _ _ _ _ _ _ _ _ _ _ _ _ _ _ _ _ _ _ _ _ _ _ _ _ _ _ _ _ _ _ _ _ _ _ _ _ _ _ _ _ _ _ _ _ _ _ _ _ _ _ _ _ _ _ _ _ _ _ _ _ _ _ _ _ _ _ _ _ _ _ _ _ _ _ _ (fun _ _ d _ _ h => by cases d <;> exact h) ?_
      intro p0 p1 p2 p3 p4 p5 p6 p7 w4 hE4
      rw [← hoa.out, ← hob.out]
      have hloc4 := (keep hloc2 hE4).1
      have y2 : w4.cell? ⟨gx, 2, none⟩ = some (.int .i64 (s : Int)) := blk_cell hloc4 2
      have ho4 := own_below ho2 hE4
      have hP4 := PCs_ext hE4 hP2
      have hX4 := Lib.hid (own_below hX2.out hE4)
      have hB4 := Lib.hid (hB2.out.trans (hE4.mono (by have := hB2.out.size; omega)))
      have hgx4 : gx < w4.heap.size := Nat.lt_of_lt_of_le hgx2 hE4.size
      have hgw4 := (ho4.lt g rfl).2
      clear x0 x1 hloc2 ho2 hP2 hX2 hB2 hE4 hgx2
      have hmid : ((lk.take ob).drop (oa + 1)).length = ob - (oa + 1) := by rw [List.length_drop, List.length_take]; omega
      have hcl := (PCs_length hP4).2
      have q := rsettle_any ((lk.take ob).drop (oa + 1)) (cutA 7 (some ⟨g, 0, none⟩) cv (oa + 1)) (cv - (oa + 1)) ((cs.take ob).drop (oa + 1)) w4 (IlQB base (.slice (some ⟨g, 0, none⟩) lk.length cv) w4) (fun b => base ≤ b ∧ b < w4.heap.size) (fun b hb => hb.2.1) (fun b hb => hb.2) (by omega)
        (by have e1 := Il.heft_append ((lk.take ob).take (oa + 1)) ((lk.take ob).drop (oa + 1)); rw [List.take_append_drop] at e1; have e2 := Il.heft_part lk ob; omega) (by rw [hmid]; exact (own_rowI ho4).cut (PCs_sev hP4) (c := cv) (by omega) (by omega) (by omega)) (PCs_drop _ (PCs_take _ hP4))
      rw [hmid] at q
      have hcut : ∀ w : World, (Instr.slice 61 (.slice (some ⟨g, 0, none⟩) lk.length cv) (some (.int .i64 ((oa : Int) + 1))) (some (.int .i64 (ob : Int))) none).run Tryz.prog w = .ok (.slice (cutA 7 (some ⟨g, 0, none⟩) cv (oa + 1)) (ob - (oa + 1)) (cv - (oa + 1))) w := by
        intro w
        have := run_cut (P := Tryz.prog) (T := 61) (by kernel_rfl) 7 (fun w => by kernel_rfl) (some ⟨g, 0, none⟩) lk.length cv (oa + 1) ob (by omega) (by omega) w
        rwa [show ((oa + 1 : Nat) : Int) = (oa : Int) + 1 by omega] at this
      obtain ⟨D, hD⟩ : ∃ D, D = Il.settle ((lk.take ob).drop (oa + 1)) := ⟨_, rfl⟩
      rw [← hD] at q
      replace hD := Lib.hid hD
      replace hmid := Lib.hid hmid
      replace ho4 := Lib.hid ho4
      replace hP4 := Lib.hid hP4
      replace hcl := Lib.hid hcl
      replace hloc4 := Lib.hid hloc4
      obtain ⟨kd, hkd⟩ : ∃ kd : Nat, kd = if s = 2 then 3 else 2 := ⟨_, rfl⟩
      have hs12 : (((s : Int) == 2) = true ∧ kd = 3) ∨ (((s : Int) == 2) = false ∧ kd = 2) := by
        by_cases h : s = 2
        · subst h; exact .inl ⟨rfl, by rw [hkd]; rfl⟩
        · refine .inr ⟨?_, by rw [hkd, if_neg h]⟩
          rw [beq_eq_false_iff_ne]; omega
      replace hkd := Lib.hid hkd
      rcases hs12 with ⟨t0, hk3⟩ | ⟨t0, hk3⟩
      all_goals
        go_wp2_with fail
        refine q.mono ?_
        rintro e w5 ⟨⟨vK, cssD, rfl, hoD, hID⟩, hb5⟩
        obtain ⟨AK, cK, rfl, hcK⟩ := own_shape hoD
        replace hk3 := Lib.hid hk3
        replace hoD := Lib.hid hoD
        replace hID := Lib.hid hID
        go_upto_region 9 with fail
        generalize hw6 : World.alloc w5 _ = w6
        have hb6 : Ext w5 w6 := by rw [← hw6]; exact ext_alloc _ _
        obtain ⟨kz, hkz, hlocP⟩ : ∃ kz : Int, kz = (kd : Int) ∧ w6.heap[w5.heap.size]? = some (.cells #[.int .i64 kz, .string ⟨#[]⟩, .string ⟨#[]⟩, .slice AK D.length cK, .int .i64 (-1), .int .i64 0, .int .u8 0] 68 (0, 0)) := by
          rw [← hw6]
          first
            | exact ⟨3, by rw [hk3.out]; rfl, heap_alloc_new _ _⟩
            | exact ⟨2, by rw [hk3.out]; rfl, heap_alloc_new _ _⟩
        have hE6 : Ext w4 w6 := Ext.trans hb5 hb6
        have ho6 := own_below ho4.out hE6
        have hP6 := PCs_ext hE6 hP4.out
        have hX6 := own_below hX4.out hE6
        have hB6 := hB4.out.trans (hE6.mono (by have := hB4.out.size; omega))
        have hD6 := Lib.hid (ICs_frame (Q' := IlQB base (.slice (some ⟨g, 0, none⟩) lk.length cv) w6) (fun b hb => hb6.block b (Nat.lt_of_lt_of_le hb.2.1 hb5.size)) (fun b hb => hb.ext hE6) hID.out)
        have hoD6 := Lib.hid (own_below hoD.out hb6)
        have y6 : w6.cell? ⟨gx, 2, none⟩ = some (.int .i64 (s : Int)) := blk_cell (keep hloc4.out hE6).1 2
        have hgp6 : w5.heap.size < w6.heap.size := (Array.getElem?_eq_some_iff.1 hlocP).1
        have hgpg : w5.heap.size ≠ g := by have := hb5.size; omega
        have hg46 := hE6.size
        have hg45 := hb5.size
        generalize w5.heap.size = gp at *
        obtain ⟨cs2, hP7, hset, f1, f2⟩ := PCs_two hP6 hpa.out hpb.out (show oa ≠ ob by omega) hsa hsb
        have z1 := il_own_cell ho6 f1
        have z2 := il_own_cell ho6 f2
        have fz := fun j => ho6.frozenAt j
        have ho7 := ((ho6.stored (oa * 7 + 5) (.int .i64 ((PA.left : Int) - s))).1.stored (ob * 7 + 5) (.int .i64 ((PB.left : Int) - s))).1
        rw [hset] at ho7
        replace ho7 := Lib.hid ho7
        replace hP7 := Lib.hid hP7
        replace hX6 := Lib.hid hX6
        replace hB6 := Lib.hid hB6
        replace hkz := Lib.hid hkz
        replace hlocP := Lib.hid hlocP
        clear hset f1 f2 ho6 hP6 hw6 hoD hID hb5 hb6 y2 hE6 ho4 hP4 hX4 hB4
        refine stress_stores oa ob s g gx lk.length cv PA.left PB.left w6 (by omega) h2 hna hnb hsa hsb (by omega) hgxg y6 z1 z2 (fz _) (fz _) _ _ _ _ _ _ _ _ _ _ _ _ _ _ _ _ _ _ _ _ _ _ _ _ _ _ _ _ _ _ _ _ _ _ _ _ _ _ _ _ _ _ _ _ _ _ _ _ _ _ _ _ _ _ _ _ _ _ _ _ _ _ _ _ _ _ _ _ _ _ _ _ _ _ _ _ _ (fun _ _ d _ _ h => by cases d <;> exact h) ?_
        intro r0 r1 r2 r3 r4 r5 r6 r7 r8 r9 r10 r11 r12 r13 r14 r15 r16 r17 r18 r19 r20 r21 r22 r23 wq hwq
        have hkeep : ∀ b', b' < w6.heap.size → b' ≠ g → wq.heap[b']? = w6.heap[b']? := by
          intro b' hb' hne
          have e1 := (grown_set (w6.setCell ⟨g, oa * 7 + 5, none⟩ (.int .i64 ((PA.left : Int) - s))) ⟨g, ob * 7 + 5, none⟩ (.int .i64 ((PB.left : Int) - s))).block b' (Nat.lt_of_lt_of_le hb' (grown_set w6 ⟨g, oa * 7 + 5, none⟩ (.int .i64 ((PA.left : Int) - s))).size) (fun e => hne (Option.some.inj e))
          have e2 := (grown_set w6 ⟨g, oa * 7 + 5, none⟩ (.int .i64 ((PA.left : Int) - s))).block b' hb' (fun e => hne (Option.some.inj e))
          rw [hwq]
          exact e1.trans e2
        have hsz : w6.heap.size ≤ wq.heap.size := by
          rw [hwq]
          exact Nat.le_trans (grown_set w6 ⟨g, oa * 7 + 5, none⟩ (.int .i64 ((PA.left : Int) - s))).size (grown_set (w6.setCell ⟨g, oa * 7 + 5, none⟩ (.int .i64 ((PA.left : Int) - s))) ⟨g, ob * 7 + 5, none⟩ (.int .i64 ((PB.left : Int) - s))).size
        have ho8 : wq.ownsRow base 68 7 (.slice (some ⟨g, 0, none⟩) lk.length cv) lk.length cs2.flatten := by rw [hwq]; exact ho7.out
        have hP8 : PCs wq (IlQB base (.slice (some ⟨g, 0, none⟩) lk.length cv) wq) _ cs2 := PCs_frame (fun b' hb' => hkeep b' hb'.2.1 (fun e => hb'.2.2 (by rw [e]; rfl))) (fun b' hb' => ⟨hb'.1, Nat.lt_of_lt_of_le hb'.2.1 hsz, hb'.2.2⟩) hP7.out
        have hX8 : wq.ownsRow w.heap.size 108 3 (.slice (some ⟨gX, 0, none⟩) X.length cX) X.length (pcells X) := by
          rw [hwq]
          have t := World.ownsRow.kept (World.ownsRow.kept hX6.out (grown_set w6 ⟨g, oa * 7 + 5, none⟩ (.int .i64 ((PA.left : Int) - s))) (.inr fun e => hgne (Option.some.inj e))) (grown_set (w6.setCell ⟨g, oa * 7 + 5, none⟩ (.int .i64 ((PA.left : Int) - s))) ⟨g, ob * 7 + 5, none⟩ (.int .i64 ((PB.left : Int) - s))) (.inr fun e => hgne (Option.some.inj e))
          exact t
        have hB8 : Below base w wq := by
          rw [hwq]
          exact ((hB6.out.setCell (p := ⟨g, oa * 7 + 5, none⟩) hgb _).setCell (p := ⟨g, ob * 7 + 5, none⟩) hgb _).drew
        have hlocP8 : wq.heap[gp]? = _ := (hkeep gp hgp6 hgpg).trans hlocP.out
        have hD8 := Lib.hid (ICs_frame (Q' := IlQB base (.slice (some ⟨g, 0, none⟩) lk.length cv) wq) (fun b' hb' => hkeep b' hb'.2.1 (fun e => hb'.2.2 (by rw [e]; rfl))) (fun b' hb' => ⟨hb'.1, Nat.lt_of_lt_of_le hb'.2.1 hsz, hb'.2.2⟩) hD6.out)
        have hoD8 := Lib.hid (show wq.ownsRow w4.heap.size 41 4 (.slice AK D.length cK) D.length cssD.flatten from by
          rw [hwq]
          have hne : (Value.slice AK D.length cK).ownBlock ≠ some g := fun e => by have := (hoD6.out.lt g e).1; omega
          have t := World.ownsRow.kept (World.ownsRow.kept hoD6.out (grown_set w6 ⟨g, oa * 7 + 5, none⟩ (.int .i64 ((PA.left : Int) - s))) (.inr hne)) (grown_set (w6.setCell ⟨g, oa * 7 + 5, none⟩ (.int .i64 ((PA.left : Int) - s))) ⟨g, ob * 7 + 5, none⟩ (.int .i64 ((PB.left : Int) - s))) (.inr hne)
          exact t)
        have hgp8 : gp < wq.heap.size := Nat.lt_of_lt_of_le hgp6 hsz
        clear hwq hkeep ho7 hP7 hX6 hB6 hlocP hD6 hoD6 z1 z2 fz y6
        have hcl2 := (PCs_length hP8).2
        have hlow : (Il.lowerP (Il.lowerP lk oa s) ob s).length = lk.length := by rw [Il.lowerP_len, Il.lowerP_len]
        rw [hlow] at hcl2
        have hsev := PCs_sev hP8
        have hone := PCs_one hP8
        replace hP8 := Lib.hid hP8
        replace hlow := Lib.hid hlow
        replace hX8 := Lib.hid hX8
        replace hB8 := Lib.hid hB8
        go_upto_region 10 with fail
        refine stress_cat lk.length ob gp (some ⟨g, 0, none⟩) cv cs2 wq (fun b' => base ≤ b' ∧ b' < wq.heap.size) (fun b' hb' => hb'.2) (by omega) (by omega) hcv (own_rowI ho8) hsev hone kz (-1) 0 0 ⟨#[]⟩ ⟨#[]⟩ AK D.length cK hgp8 (blk_cell hlocP8 0) (blk_cell hlocP8 1) (blk_cell hlocP8 2) (blk_cell hlocP8 3) (blk_cell hlocP8 4) (blk_cell hlocP8 5) (blk_cell hlocP8 6) _ _ _ _ _ _ _ _ _ _ _ _ _ _ _ _ _ _ _ _ _ _ _ _ _ _ _ _ _ _ _ _ _ _ _ _ _ _ _ _ _ _ _ _ _ _ _ _ _ _ _ _ _ _ _ _ _ _ _ _ _ _ _ _ _ _ _ _ _ _ _ _ _ _ _ _ _ _ (fun _ _ d _ _ h => by cases d <;> exact h) ?_
        intro v11 t0 t1 t2 t3 t4 t5 w9 ho9 hE9
        clear hlocP8
        obtain ⟨g11, c11, rfl, hc11, hb11, hg11⟩ := il_some ho9 (show 0 < 1 + (lk.length - ob) by omega)
        have hsz9 := hE9.size
        have hl1 : (cs2.take (oa + 1)).flatten.length = (oa + 1) * 7 := by rw [sev_len (sev_take' hsev _), List.length_take]; omega
        have hl2 : (sevenC kz ⟨#[]⟩ ⟨#[]⟩ (.slice AK D.length cK) (-1) 0 0 ++ (cs2.drop ob).flatten).length = (1 + (lk.length - ob)) * 7 := ho9.1
        have hcells1 := Lib.hid (fun (u : World) (hu : Ext w9 u) (j : Nat) (x : Value) (hx : (cs2.take (oa + 1)).flatten[j]? = some x) => (show u.cell? ((⟨g, 0, none⟩ : Addr).add j) = some x from by
          rw [← sev_take hsev, List.getElem?_take] at hx
          split at hx
          · exact (own_below ho8 (Ext.trans hE9 hu)).cells rfl j x hx
          · cases hx))
        have hcells2 := Lib.hid (fun (u : World) (hu : Ext w9 u) (j : Nat) (x : Value) (hx : (sevenC kz ⟨#[]⟩ ⟨#[]⟩ (.slice AK D.length cK) (-1) 0 0 ++ (cs2.drop ob).flatten)[j]? = some x) => (show u.cell? ((⟨g11, 0, none⟩ : Addr).add j) = some x from
          (own_below ho9 hu).cells rfl j x hx))
        have hone1 := Lib.hid (fun u (hu : u ∈ (cs2.take (oa + 1)).flatten) => hone u (by
          obtain ⟨y, hy, hu⟩ := List.mem_flatten.1 hu
          exact List.mem_flatten.2 ⟨y, List.mem_of_mem_take hy, hu⟩))
        have hone2 := Lib.hid (fun u (hu : u ∈ sevenC kz ⟨#[]⟩ ⟨#[]⟩ (.slice AK D.length cK) (-1) 0 0 ++ (cs2.drop ob).flatten) => (show u.oneCell' = true from by
          rcases List.mem_append.1 hu with h | h
          · simp only [sevenC, List.mem_cons, List.not_mem_nil, or_false] at h
            rcases h with rfl | rfl | rfl | rfl | rfl | rfl | rfl <;> rfl
          · exact hone u (by
              obtain ⟨y, hy, h⟩ := List.mem_flatten.1 h
              exact List.mem_flatten.2 ⟨y, List.mem_of_mem_drop hy, h⟩)))
        have hown0 := Lib.hid (show (w9.alloc (.cells #[] 68)).ownsRow w9.heap.size 68 7 (.slice (some ⟨w9.heap.size, 0, none⟩) 0 0) 0 [] from World.ownsRow_lit w9 #[] 0 (Nat.le_refl _) (by unfold maxLen; omega) rfl)
        have hcut3 := run_short7 (P := Tryz.prog) (T := 61) (by kernel_rfl) 7 (fun w => by kernel_rfl) g lk.length cv (oa + 1) (v := (oa : Int) + 1) (by omega) (by omega)
        obtain ⟨n1, hn1⟩ : ∃ n, n = (cs2.take (oa + 1)).flatten := ⟨_, rfl⟩
        obtain ⟨n2, hn2⟩ : ∃ n, n = sevenC kz ⟨#[]⟩ ⟨#[]⟩ (.slice AK D.length cK) (-1) 0 0 ++ (cs2.drop ob).flatten := ⟨_, rfl⟩
        rw [← hn1] at hl1 hcells1 hone1
        rw [← hn2] at hl2 hcells2 hone2
        replace hn1 := Lib.hid hn1
        replace hn2 := Lib.hid hn2
        replace ho8 := Lib.hid ho8
        replace ho9 := Lib.hid ho9
        replace hsev := Lib.hid hsev
        replace hone := Lib.hid hone
        go_upto_region 12 with (at_builtin; first | (refine wpList_app_row rfl (.tmp 69) (.tmp 73) rfl partEI rfl hown0.out n1 rfl hl1 (hcells1.out _ (ext_alloc _ _)) hone1.out (by omega) (by omega) (by simp) ?_; intro v12 w12 ho12 hg12 hb12 hat12; have hE12 : Hid (Ext w9 w12) := Lib.hid (Below.trans (ext_alloc w9 _) hb12); have hsz12 : w9.heap.size ≤ w12.heap.size := hE12.out.size; replace ho12 := Lib.hid ho12; clear hb12 hat12) | (refine wpList_app_row rfl (.tmp 74) (.tmp 75) rfl partEI rfl ho12.out n2 rfl hl2 (hcells2.out _ hE12.out) hone2.out (by omega) (by omega) (by omega) ?_; intro v13 w13 ho13 hg13 hb13 hat13; have hE13 : Hid (Ext w9 w13) := Lib.hid (Below.trans hE12.out hb13); replace ho13 := Lib.hid ho13; clear hb13 hat13 hg13))
        have hblk13 : ∀ b', b' < w9.heap.size → v13.ownBlock ≠ some b' := fun b' hb' e => by have := (ho13.out.lt b' e).1; omega
        have hJ : Il.behindP l X (k + 1) = (Il.lowerP (Il.lowerP lk oa s) ob s).take (oa + 1) ++ [⟨.mk kd [] [] D, none, 0, 0⟩] ++ (Il.lowerP (Il.lowerP lk oa s) ob s).drop ob := by
          rw [hnx.out]
          unfold Il.joinPair
          simp only
          rw [← hoa.out, ← hob.out, hkd.out, hD.out]
        have hE : Ext wq w13 := Ext.trans hE9 hE13.out
        have hPC : PC w13 (IlQB base v13 w13) ⟨.mk kd [] [] D, none, 0, 0⟩ (sevenC kz ⟨#[]⟩ ⟨#[]⟩ (.slice AK D.length cK) (-1) 0 0) := by
          refine ⟨[.int .i64 (kd : Int), .string (bs []), .string (bs []), .slice AK D.length cK], ?_, by rw [hkz.out]; rfl⟩
          unfold IC
          refine ⟨AK, cK, cssD, rfl, hcK, ?_, ?_⟩
          · exact (own_rowI hoD8.out).frame (fun b' hb' => hE.block b' hb'.2) (fun b' hb' => ⟨by have := hb'.1; have := hB8.out.size; omega, Nat.lt_of_lt_of_le hb'.2 hE.size, hblk13 b' (by omega)⟩)
          · exact ICs_frame (fun b' hb' => hE.block b' hb'.2.1) (fun b' hb' => ⟨hb'.1, Nat.lt_of_lt_of_le hb'.2.1 hE.size, hblk13 b' (by have := hb'.2.1; omega)⟩) hD8.out
        have hP13 := PCs_frame (Q' := IlQB base v13 w13) (fun b' hb' => hE.block b' hb'.2.1) (fun b' hb' => ⟨hb'.1, Nat.lt_of_lt_of_le hb'.2.1 hE.size, hblk13 b' (by have := hb'.2.1; omega)⟩) hP8.out
        have hfinS : Hid (∀ u : Value, u = .int .i64 ((k + 1 : Nat) : Int) → StressAt l X base (.slice (some ⟨gX, 0, none⟩) X.length cX) w.heap.size w v13 u w13) := Lib.hid fun u hu => by
          refine ⟨k + 1, cs2.take (oa + 1) ++ [sevenC kz ⟨#[]⟩ ⟨#[]⟩ (.slice AK D.length cK) (-1) 0 0] ++ cs2.drop ob, hkX, hu, Lib.hid ?_, Lib.hid ?_, Lib.hid (own_below hX8.out hE), Lib.hid ?_, Lib.hid ?_⟩
          · have e1 : (Il.behindP l X (k + 1)).length = 0 + (oa + 1) + (1 + (lk.length - ob)) := by
              rw [hJ, List.length_append, List.length_append, List.length_take, List.length_drop, hlow.out, List.length_singleton]; omega
            have e2 : (cs2.take (oa + 1) ++ [sevenC kz ⟨#[]⟩ ⟨#[]⟩ (.slice AK D.length cK) (-1) 0 0] ++ cs2.drop ob).flatten = [] ++ n1 ++ n2 := by
              rw [hn1.out, hn2.out]; simp
            rw [e1, e2]
            exact own_base ho13.out (by have := hB8.out.size; omega)
          · rw [hJ]
            exact PCs_append (PCs_append (PCs_take _ hP13) ⟨_, [], rfl, hPC, rfl⟩) (PCs_drop _ hP13)
          · intro g' h1 h2
            have e1 := (hX8.out.lt g' h1).2
            exact hblk13 g' (by omega) h2
          · exact hB8.out.trans (hE.mono (by have := hB8.out.size; omega))
        clear hJ hE hPC hP13 hblk13
        go_wp2_with fail
        go_roundw
        case rel => exact hfinS.out _ (by go_num)
        case measure => simp [intOf]; omega
    · obtain rfl : k = X.length := by omega
      obtain ⟨A1, c1, rfl, hc1⟩ := own_shape hoK.out
      have hf0 : Hid (fin = Il.settle lk) := Lib.hid (by rw [hfin2.out, hlk])
      have q := rsettle_any lk A1 c1 cs wr (IlQB base (.slice A1 lk.length c1) wr) (fun b => base ≤ b ∧ b < wr.heap.size) (fun b hb => hb.2.1) (fun b hb => hb.2) (by omega) (by omega) (own_rowI hoK.out) hPK.out
      rw [← hf0.out] at q
      have hzr := hBK.out.size
      replace hlk := Lib.hid hlk
      clear hfin2 hall hgood husd hcnt
      go_wp2_with fail
      refine q.mono ?_
      rintro e w2 ⟨⟨v2, css2, rfl, ho2, hI2⟩, hb2⟩
      have ho2' := Lib.hid (own_base ho2 (show base ≤ wr.heap.size by omega))
      have hI2' := Lib.hid (ICs_frame (Q' := fun b => base ≤ b ∧ b < w2.heap.size) (fun _ _ => rfl) (fun b hb => ⟨hb.1, Nat.lt_of_lt_of_le hb.2.1 hb2.size⟩) hI2)
      have hB2 := Lib.hid (hBK.out.trans (hb2.mono (show base ≤ wr.heap.size by omega)))
      clear ho2 hI2 hb2
      go_wp2_with fail
      go_ret
      exact ⟨⟨_, rfl, css2, ho2'.out, hI2'.out⟩, hB2.out⟩
end Go.Proofs.YtkfhkfagmokjpaaGreatDoor

namespace Go.Proofs.YtkfhkfagmokjpaaGreatDoor
open Go.RowKit

/-- blocks of the call's own, but the two rows' -/
def QW (base : Nat) (v u : Value) (w : World) : Nat → Prop := fun b => base ≤ b ∧ b < w.heap.size ∧ v.ownBlock ≠ some b ∧ u.ownBlock ≠ some b
structure WM (base : Nat) (v u : Value) (st : Il.Sc) (css : List (List Value)) (w : World) : Prop where
  parts : w.ownsRow base 68 7 v st.l.length css.flatten
  kids : PCs w (QW base v u w) st.l css
  runs : w.ownsRow base 74 4 u st.runs.length (acells st.runs)
  apart : Apart v u
section
variable {base : Nat} {v u : Value} {st : Il.Sc} {css : List (List Value)} {w w' : World}
theorem WM.ext (h : WM base v u st css w) (he : Ext w w') : WM base v u st css w' :=
  ⟨own_below h.parts he, PCs_frame (fun b hb => he.block b hb.2.1) (fun _ hb => ⟨hb.1, Nat.lt_of_lt_of_le hb.2.1 he.size, hb.2.2⟩) h.kids, own_below h.runs he, h.apart⟩
theorem WM.start (base : Nat) (w : World) : WM base (.slice none 0 0) (.slice none 0 0) ⟨[], []⟩ [] w :=
  ⟨World.ownsRow_nil _ _ _ _, rfl, World.ownsRow_nil _ _ _ _, Apart.nil _⟩
/-- the row of parts is another one, its block its own or a new one -/
theorem WM.turn (h : WM base v u st css w) {v' : Value} {l' : List Il.Pt} {css' : List (List Value)} (hg : w.grownBy w' v.ownBlock) (ho : w'.ownsRow base 68 7 v' l'.length css'.flatten) (hat : At w.heap.size v v') (hP : PCs w' (QW base v u w) l' css') : WM base v' u ⟨l', st.runs⟩ css' w' := by
  refine ⟨ho, ?_, own_apart h.runs hg h.apart, h.apart.step h.runs hat (Nat.le_refl _)⟩
  refine PCs_frame (fun _ _ => rfl) (fun b hb => ⟨hb.1, Nat.lt_of_lt_of_le hb.2.1 hg.size, fun e => ?_, hb.2.2.2⟩) hP
  rcases hat b e with h1 | h1
  · exact hb.2.2.1 h1
  · have := hb.2.1; omega
theorem WM.kept (_h : WM base v u st css w) (hg : w.grownBy w' v.ownBlock) {l : List Il.Pt} {cs : List (List Value)} (hP : PCs w (QW base v u w) l cs) : PCs w' (QW base v u w) l cs :=
  PCs_frame (fun b hb => hg.block b hb.2.1 (fun e => hb.2.2.1 e.symm)) (fun _ hb => hb) hP
/-- a part more -/
theorem WM.push (h : WM base v u st css w) {v' : Value} {p : Il.Pt} {cs : List Value} (hg : w.grownBy w' v.ownBlock) (ho : w'.ownsRow base 68 7 v' (st.l.length + 1) (css.flatten ++ cs)) (hat : At w.heap.size v v') (hp : PC w (QW base v u w) p cs) : WM base v' u ⟨st.l ++ [p], st.runs⟩ (css ++ [cs]) w' := by
  refine h.turn hg ?_ hat (h.kept hg (PCs_snoc h.kids hp))
  have e1 : (st.l ++ [p]).length = st.l.length + 1 := by simp
  have e2 : (css ++ [cs]).flatten = css.flatten ++ cs := by simp
  rw [e1, e2]; exact ho
/-- a run more -/
theorem WM.pushRun (h : WM base v u st css w) {u' : Value} {r : Em.R} {cs : List Value} (hg : w.grownBy w' u.ownBlock) (ho : w'.ownsRow base 74 4 u' (st.runs.length + 1) (acells st.runs ++ cs)) (hcs : cs = acell r) (hat : At w.heap.size u u') : WM base v u' ⟨st.l, st.runs ++ [r]⟩ css w' := by
  refine ⟨own_apart h.parts hg h.apart.symm, ?_, ?_, (h.apart.symm.step h.parts hat (Nat.le_refl _)).symm⟩
  · refine PCs_frame (fun b hb => hg.block b hb.2.1 (fun e => hb.2.2.2 e.symm)) (fun b hb => ⟨hb.1, Nat.lt_of_lt_of_le hb.2.1 hg.size, hb.2.2.1, fun e => ?_⟩) h.kids
    rcases hat b e with h1 | h1
    · exact hb.2.2.2 h1
    · have := hb.2.1; omega
  · have e1 : (st.runs ++ [r]).length = st.runs.length + 1 := by simp
    have e2 : acells (st.runs ++ [r]) = acells st.runs ++ cs := by rw [hcs]; simp [acells]
    rw [e1, e2]; exact ho
/-- a plain more -/
theorem WM.put (h : WM base v u st css w) {v' : Value} {s : List UInt8} {css' : List (List Value)} (hg : w.grownBy w' v.ownBlock) (ho : w'.ownsRow base 68 7 v' (Il.pput st.l s).length css'.flatten) (hP : PCs w' (QW base v u w) (Il.pput st.l s) css') (hat : At w.heap.size v v') : WM base v' u ⟨Il.pput st.l s, st.runs⟩ css' w' :=
  h.turn hg ho hat hP
end
/-- a part without kids -/
theorem PC_bare (w : World) (Q : Nat → Prop) (kd : Nat) (t d : List UInt8) (r : Option Nat) (n : Nat) (c : UInt8) : PC w Q ⟨.mk kd t d [], r, n, c⟩ [.int .i64 (kd : Int), .string (bs t), .string (bs d), .slice none 0 0, .int .i64 (runI r), .int .i64 (n : Int), .int .u8 (c.toNat : Int)] := by
  refine ⟨[.int .i64 (kd : Int), .string (bs t), .string (bs d), .slice none 0 0], ?_, rfl⟩
  unfold IC
  exact ⟨none, 0, [], rfl, Nat.le_refl _, ⟨rfl, fun h => by simp at h⟩, ICs_nil⟩
end Go.Proofs.YtkfhkfagmokjpaaGreatDoor

namespace Go.Proofs.YtkfhkfagmokjpaaGreatDoor
open Go.RowKit

theorem Il.kind_n {s : List UInt8} {i : Nat} {r : Em.R} {e : Nat} (h : Em.kind s (i : Int) = some (r, e)) : r.n = ((e - i : Nat) : Int) := by
  unfold Em.kind at h
  split at h
  · simp only [Int.toNat_natCast, Option.some.injEq, Prod.mk.injEq] at h
    obtain ⟨h1, h2⟩ := h
    have : r.n = (Fn.run (s.getD i 0) (s.drop i) : Nat) := by rw [← h1]; unfold Em.judge; split <;> rfl
    rw [this]; omega
  · cases h
theorem Il.close_lt {s : List UInt8} {i j : Nat} (h : Lk.close s (i : Int) = some j) : j < s.length := by
  unfold Lk.close at h
  split at h
  · exact (Il.closeF_spec _ _ _ _ h).2
  · cases h
theorem Il.auto_len {s : List UInt8} {i : Nat} {t : List UInt8} {e : Nat} (h : Lk.auto s (i : Int) = some (t, e)) : t.length ≤ s.length := by
  unfold Lk.auto at h
  split at h
  · obtain ⟨j, hj, he⟩ := Option.map_eq_some_iff.1 h
    injection he with h1 h2
    rw [← h1]
    unfold mid
    rw [List.length_take, List.length_drop]; omega
  · cases h
theorem Il.span_len {s : List UInt8} {i : Nat} {t : List UInt8} {e : Nat} (h : Cd.span s (i : Int) = some (t, e)) : t.length + i ≤ e := by
  have hsp := Cd.span_spec h
  unfold Cd.span at h
  split at h
  · obtain ⟨j, hj, he⟩ := Option.map_eq_some_iff.1 h
    injection he with h1 h2
    have hc := Cd.clean_len (mid s ((i : Int).toNat + Fn.run 96 (s.drop (i : Int).toNat)) j)
    have hm : (mid s ((i : Int).toNat + Fn.run 96 (s.drop (i : Int).toNat)) j).length ≤ j - ((i : Int).toNat + Fn.run 96 (s.drop (i : Int).toNat)) := by unfold mid; rw [List.length_take]; omega
    rw [h1] at hc
    simp only [Int.toNat_natCast] at *
    omega
  · cases h
theorem spanV_form (x : Option (List UInt8 × Nat)) : ∃ (t : List UInt8) (e : Nat) (ok : Bool), spanV x = .tuple #[.string (bs t), .int .i64 (e : Int), .bool ok] := by
  cases x with
  | none => exact ⟨[], 0, false, rfl⟩
  | some x => exact ⟨x.1, x.2, true, rfl⟩
theorem placeV_form (x : Option Nat) : ∃ (e : Nat) (ok : Bool), placeV x = .tuple #[.int .i64 (e : Int), .bool ok] := by
  cases x with
  | none => exact ⟨0, false, rfl⟩
  | some x => exact ⟨x, true, rfl⟩
theorem wrunEI : EI Tryz.prog 62 74 4 24 := EI.mk' Tryz.underlying62 (z := .agg #[.int .u8 0, .int .i64 0, .bool false, .bool false]) (by kernel_rfl) rfl (by omega)
/-- the text is read up to a place -/
def InW (link : Bool) (inner : List UInt8 → List Il.In) (s : List UInt8) (fin : Il.Sc) (base : Nat) (w : World) (v u z : Value) (wr : World) : Prop :=
  ∃ (i : Nat) (st : Il.Sc) (css : List (List Value)), i ≤ s.length ∧ z = .int .i64 (i : Int) ∧ Hid (WM base v u st css wr) ∧ Hid (Il.ScOK st i) ∧ Hid (Il.scan link inner s i st = fin) ∧ Hid (Below base w wr)
/-- what within is of a text -/
def WithinOf (link : Bool) (f : List UInt8 → List Il.In) : Prop := ∀ (t : List UInt8) (u : World), t.length ≤ 4000000 → Calls Tryz.prog 18 #[.string (bs t), .bool link] u fun e u' =>
  (∃ v, e = .returned v ∧ ∃ css, u'.ownsRow u.heap.size 41 4 v (f t).length css.flatten ∧ ICs u' (fun b => u.heap.size ≤ b ∧ b < u'.heap.size) (f t) css) ∧ Below u.heap.size u u'

end Go.Proofs.YtkfhkfagmokjpaaGreatDoor

namespace Go.Proofs.YtkfhkfagmokjpaaGreatDoor.Il
open Go.Lib

theorem runes_few : ∀ (n : Nat) (l : List UInt8), l.length ≤ n → (Ru.runes l).length ≤ l.length
  | 0, l, h => by
    have : l = [] := List.eq_nil_of_length_eq_zero (by omega)
    subst this; simp [Ru.runes_nil]
  | n + 1, l, h => by
    by_cases h0 : l = []
    · subst h0; simp [Ru.runes_nil]
    · have hl : 0 < l.length := List.length_pos_iff.2 h0
      have hw := decodeL_width l
      have ih := runes_few n (l.drop (decodeL l).2) (by rw [List.length_drop]; omega)
      rw [Ru.runes_step h0, List.length_cons]
      rw [List.length_drop] at ih
      omega
theorem enc_few : ∀ X : List Nat, (Ru.enc X).length ≤ 4 * X.length
  | [] => by simp [Ru.enc_nil]
  | x :: X => by
    have := Ru.encodeRune_len (x : Int)
    have := enc_few X
    rw [Ru.enc_cons, List.length_append, List.length_cons]; omega
theorem auto_in {s : List UInt8} {i : Nat} {t : List UInt8} {e : Nat} (h : Lk.auto s (i : Int) = some (t, e)) : t.length + i ≤ e := by
  have hsp := Lk.auto_spec h
  unfold Lk.auto at h
  split at h
  · obtain ⟨j, hj, he⟩ := Option.map_eq_some_iff.1 h
    injection he with h1 h2
    rw [← h1]
    unfold Go.Proofs.YtkfhkfagmokjpaaGreatDoor.mid
    rw [List.length_take, Int.toNat_natCast]
    omega
  · cases h
theorem pput_weight (l : List Pt) (s : List UInt8) : weight (pput l s) = weight l + s.length := by
  have h0 : weight ([] : List Pt) = 0 := rfl
  rcases pput_cases l s with ⟨l', t, d, k, n, c, rfl, h⟩ | h
  · rw [h, weight_append, weight_append, weight_cons, weight_cons, h0]
    simp only [eff_none, txt, List.length_append]
    omega
  · rw [h, weight_append, weight_cons, h0]
    simp only [word, eff_none, txt, txts, List.length_append]
    simp
theorem pput_few {l : List Pt} {s : List UInt8} (h : ∀ p ∈ l, Few p.inn) : ∀ p ∈ pput l s, Few p.inn := by
  intro p hp
  rcases pput_cases l s with ⟨l', t, d, k, n, c, rfl, e⟩ | e
  · rw [e] at hp
    rcases List.mem_append.1 hp with hp | hp
    · exact h p (by simp [hp])
    · obtain rfl := List.mem_singleton.1 hp
      exact few_text (h ⟨.mk 0 t d k, none, n, c⟩ (by simp)) _ _
  · rw [e] at hp
    rcases List.mem_append.1 hp with hp | hp
    · exact h p hp
    · obtain rfl := List.mem_singleton.1 hp
      exact few_bare (by omega) _ _
/-- not too much, up to a place -/
structure FewS (st : Sc) (i : Nat) : Prop where
  few : ∀ p ∈ st.l, Few p.inn
  weight : weight st.l ≤ 4 * i
theorem fews_put {st : Sc} {i e : Nat} (h : FewS st i) {s : List UInt8} (hs : s.length + 4 * i ≤ 4 * e) (runs : List Em.R) : FewS ⟨pput st.l s, runs⟩ e :=
  ⟨pput_few h.few, by have := h.weight; rw [pput_weight]; omega⟩
theorem fews_push {st : Sc} {i e : Nat} (h : FewS st i) {p : Pt} (hp : Few p.inn) (hw : (txt (eff p)).length + 4 * i ≤ 4 * e) (runs : List Em.R) : FewS ⟨st.l ++ [p], runs⟩ e := by
  have h0 : Il.weight ([] : List Pt) = 0 := rfl
  have := h.weight
  refine ⟨fun q hq => ?_, by rw [weight_append, weight_cons, h0]; omega⟩
  rcases List.mem_append.1 hq with hq | hq
  · exact h.few q hq
  · obtain rfl := List.mem_singleton.1 hq; exact hp
/-- what is asked of what stands within a link -/
def InnerOK (inner : List UInt8 → List In) : Prop := ∀ t, t.length ≤ 4000000 → (∀ y ∈ inner t, Few y) ∧ (inner t).length ≤ 1000000000 ∧ (txts (inner t)).length ≤ 4 * t.length
theorem piece_ok (link : Bool) (inner : List UInt8 → List In) (hin : link = false → InnerOK inner) {s : List UInt8} (hs : s.length ≤ 4000000) {i : Nat} (h : i < s.length) {st : Sc} (hok : ScOK st i) (hf : FewS st i) :
    ScOK (piece link inner s i st).2 (piece link inner s i st).1 ∧ FewS (piece link inner s i st).2 (piece link inner s i st).1 := by
  have hm := piece_more link inner h st
  unfold piece at hm ⊢
  by_cases h96 : s.getD i 0 = 96
  · rw [if_pos h96] at hm ⊢
    cases hsp : Cd.span s (i : Int) with
    | some x =>
      obtain ⟨t, e⟩ := x
      rw [hsp] at hm
      simp only at hm ⊢
      have hl := span_len hsp
      exact ⟨scok_push hok hm.1 (by simp only [tlen]; omega), fews_push hf (few_bare (by omega) _ _) (by simp [eff_none, txt, txts]; omega) _⟩
    | none =>
      rw [hsp] at hm
      simp only at hm ⊢
      have hml := Go.Proofs.YtkfhkfagmokjpaaGreatDoor.mid_len (l := s) (lo := i) (hi := i + Fn.run 96 (s.drop i)) hm.2
      exact ⟨scok_put hok hm.1 (by omega), fews_put hf (by omega) _⟩
  · rw [if_neg h96] at hm ⊢
    cases ha : (if link = true then none else Lk.auto s (i : Int)) with
    | some x =>
      obtain ⟨t, e⟩ := x
      rw [ha] at hm
      simp only at hm ⊢
      split at ha
      · cases ha
      · have hl := auto_in ha
        have h1 := enc_few (Ru.runes t)
        have h2 := runes_few t.length t (Nat.le_refl _)
        exact ⟨scok_push hok hm.1 (by simp [tlen]), fews_push hf (.mk (by omega) (by simp) (fun x hx => by obtain rfl := List.mem_singleton.1 hx; exact few_bare (by omega) _ _)) (by simp [eff_none, txt, txts, word]; omega) _⟩
    | none =>
      rw [ha] at hm
      simp only at hm ⊢
      cases hl : (if link = true then none else linkAt s i) with
      | some x =>
        obtain ⟨d, j, e⟩ := x
        rw [hl] at hm
        simp only at hm ⊢
        split at hl
        · cases hl
        · rename_i hlf
          have h3 := link_spec hl
          have hml := Go.Proofs.YtkfhkfagmokjpaaGreatDoor.mid_len (l := s) (lo := i + 1) (hi := j) (by omega)
          obtain ⟨f1, f2, f3⟩ := hin (by simpa using hlf) (Go.Proofs.YtkfhkfagmokjpaaGreatDoor.mid s (i + 1) j) (by omega)
          exact ⟨scok_push hok hm.1 (by simp [tlen]), fews_push hf (.mk (by omega) f2 f1) (by simp [eff_none, txt]; omega) _⟩
      | none =>
        rw [hl] at hm
        simp only at hm ⊢
        cases hk : Em.kind s (i : Int) with
        | some x =>
          obtain ⟨r, e⟩ := x
          rw [hk] at hm
          simp only at hm ⊢
          have hn := kind_n hk
          exact ⟨scok_run hok hm.1 hn (by omega), fews_push hf (few_bare (by omega) _ _) (by simp [none_, eff_some, txt, txts, hn]; omega) _⟩
        | none =>
          rw [hk] at hm
          simp only at hm ⊢
          by_cases h10 : s.getD i 0 = 10
          · rw [if_pos h10] at hm ⊢
            exact ⟨scok_push hok hm.1 (by simp [tlen]), fews_push hf (few_bare (by omega) _ _) (by simp [eff_none, txt, txts]; omega) _⟩
          · rw [if_neg h10] at hm ⊢
            have he := Ru.encodeRune_len ((Es.next s i).1 : Int)
            simp only at hm ⊢
            exact ⟨scok_put hok hm.1 (by omega), fews_put hf (by omega) _⟩
theorem scanF_ok (link : Bool) (inner : List UInt8 → List In) (hin : link = false → InnerOK inner) {s : List UInt8} (hs : s.length ≤ 4000000) : ∀ (f i : Nat) (st : Sc), i ≤ s.length → ScOK st i → FewS st i → ∃ j, j ≤ s.length ∧ ScOK (scanF link inner f s i st) j ∧ FewS (scanF link inner f s i st) j
  | 0, i, st, hi, h1, h2 => ⟨i, hi, h1, h2⟩
  | f + 1, i, st, hi, h1, h2 => by
    unfold scanF
    by_cases h : i < s.length
    · rw [if_pos h]
      have hm := piece_more link inner h st
      obtain ⟨k1, k2⟩ := piece_ok link inner hin hs h h1 h2
      exact scanF_ok link inner hin hs f _ _ hm.2 k1 k2
    · rw [if_neg h]; exact ⟨i, hi, h1, h2⟩
theorem within_ok (link : Bool) (inner : List UInt8 → List In) (hin : link = false → InnerOK inner) : InnerOK (within link inner) := by
  intro s hs
  obtain ⟨j, hj, h1, h2⟩ := scanF_ok link inner hin hs (s.length + 1 - 0) 0 ⟨[], []⟩ (Nat.zero_le _) scok_start ⟨by simp, by simp [weight]⟩
  have hl := h1.len
  have hr := h1.rlen
  have hw := h2.weight
  obtain ⟨s1, s2, s3⟩ := stress_few (scok_ready h1) h2.few (by omega) (by omega)
  exact ⟨s1, s2, Nat.le_trans s3 (by omega)⟩
/-- what a text is parted into -/
theorem parse_ok : InnerOK parse := within_ok false inLink (fun _ => within_ok true (fun _ => []) (fun h => absurd h (by decide)))
end Go.Proofs.YtkfhkfagmokjpaaGreatDoor.Il

namespace Go.Proofs.YtkfhkfagmokjpaaGreatDoor.Il
open Go.Lib

theorem runes_full {t : List UInt8} (h : t ≠ []) : Ru.enc (Ru.runes t) ≠ [] := by
  intro h0
  have := (Ru.enc_eq_nil).1 h0
  rw [Ru.runes_step h] at this
  cases this
end Go.Proofs.YtkfhkfagmokjpaaGreatDoor.Il
