/- Law 10: no two pairs cross; none takes more signs than there are; the one opens, the other closes. What the program's Match does is a premise. -/
import Derived.Test.YtboeaofcioolnaaDoorEmKnown
import Derived.Test.YtboeaofcioolnaaDoorEmStores
import Derived.Deep.DeepCutAuto
namespace Go.Proofs.YtboeaofcioolnaaDoor
open Go.RowKit
attribute [local go_sem] canOp readsAs readUpon

/-- a pair in a block of its own -/
def PairIn (x : Nat × Nat × Nat) (g : Nat) (w : World) : Prop := w.cell? ⟨g, 0, none⟩ = some (.int .i64 (x.1 : Int)) ∧ w.cell? ⟨g, 1, none⟩ = some (.int .i64 (x.2.1 : Int)) ∧ w.cell? ⟨g, 2, none⟩ = some (.int .i64 (x.2.2 : Int))
theorem PairIn.ext {x : Nat × Nat × Nat} {g : Nat} {w u : World} (h : PairIn x g w) (hg : g < w.heap.size) (hu : Below w.heap.size w u) : PairIn x g u :=
  ⟨(hu.cell (p := ⟨g, 0, none⟩) hg).trans h.1, (hu.cell (p := ⟨g, 1, none⟩) hg).trans h.2.1, (hu.cell (p := ⟨g, 2, none⟩) hg).trans h.2.2⟩
theorem PairIn.set {x : Nat × Nat × Nat} {g g' i : Nat} {v : Value} {w : World} (h : PairIn x g w) (hg : g ≠ g') : PairIn x g (w.setCell ⟨g', i, none⟩ v) := by
  have e : ∀ j, (w.setCell ⟨g', i, none⟩ v).cell? ⟨g, j, none⟩ = w.cell? ⟨g, j, none⟩ := fun j => World.cell?_setCell_other w ⟨g', i, none⟩ ⟨g, j, none⟩ _ (by intro h; injection h with h1 _ _; exact hg h1.symm)
  exact ⟨(e 0).trans h.1, (e 1).trans h.2.1, (e 2).trans h.2.2⟩
theorem PairsAt.ext {X : List (Nat × Nat × Nat)} {g : Nat} {w u : World} (h : PairsAt X g w) (hg : g < w.heap.size) (hu : Below w.heap.size w u) : PairsAt X g u := fun k hk =>
  ⟨(hu.cell (p := ⟨g, k * 3, none⟩) hg).trans (h k hk).1, (hu.cell (p := ⟨g, k * 3 + 1, none⟩) hg).trans (h k hk).2.1, (hu.cell (p := ⟨g, k * 3 + 2, none⟩) hg).trans (h k hk).2.2⟩

set_option maxHeartbeats 8000000 in
set_option maxRecDepth 100000 in
theorem nest_inner (X : List (Nat × Nat × Nat)) (x : Nat × Nat × Nat) (gp gx k cp : Nat) (w : World) (hk : k ≤ X.length) (hkc : k ≤ cp) (hXl : X.length ≤ 100000) (hgp : gp < w.heap.size) (hgx : gx < w.heap.size) (hP : PairsAt X gp w) (hx : PairIn x gx w)
    (hap : ∀ j (hj : j < X.length), j < k → Em.apart X[j] x)
    (s0 s1 s2 s3 s4 s5 s6 s8 s9 s10 s11 s12 s13 s14 s15 s16 s17 s18 s19 s20 s21 s22 s23 s24 s25 s26 s27 s28 s29 s30 s31 s32 s33 s34 s35 s36 s37 s38 s39 s40 s41 s42 s43 s44 s45 s46 s47 s48 s49 s50 s51 s52 s53 s54 s55 s56 s57 s58 s59 s60 s61 s62 s63 s64 s65 s66 s67 s68 s69 s70 s71 s72 s73 s74 s75 s76 s77 s78 s79 s80 s81 s82 s83 s84 s85 s86 s87 s88 s89 s90 s91 s92 s93 s94 s95 s96 s97 s98 s99 s100 s101 s105 s106 s107 s108 s109 s110 s111 s112 s113 s114 s115 s116 s117 s118 s119 s120 s121 s122 s123 s124 s125 s126 s127 s128 s129 s130 s131 s132 s133 s134 s135 s136 s137 s138 s139 s140 s141 s142 s143 s144 s145 s146 s147 s148 s149 s150 s151 s152 s153 s154 s155 s156 s157 s158 s159 s160 s161 s162 s163 s164 s165 : Value) (Q0 : Exit → Act → World → Prop)
    (hexit : ∀ (u2 u9 u105 u106 u107 u108 u109 u110 u111 u112 u113 u114 u115 u116 u117 u118 u119 u120 u121 u122 u123 u124 u125 u126 u127 u128 u129 u130 u131 u132 u133 u134 u135 u136 u137 u138 u139 u140 u141 u142 u143 u144 u145 u146 u147 u148 : Value) (wq : World), Below w.heap.size w wq → Q0 (.exit 2) ⟨(s0 :: s1 :: u2 :: s3 :: s4 :: s5 :: s6 :: .pointer (some ⟨gx, 0, none⟩) :: s8 :: u9 :: s10 :: s11 :: s12 :: s13 :: s14 :: s15 :: s16 :: s17 :: s18 :: s19 :: s20 :: s21 :: s22 :: s23 :: s24 :: s25 :: s26 :: s27 :: s28 :: s29 :: s30 :: s31 :: s32 :: s33 :: s34 :: s35 :: s36 :: s37 :: s38 :: s39 :: s40 :: s41 :: s42 :: s43 :: s44 :: s45 :: s46 :: s47 :: s48 :: s49 :: s50 :: s51 :: s52 :: s53 :: s54 :: s55 :: s56 :: s57 :: s58 :: s59 :: s60 :: s61 :: s62 :: s63 :: s64 :: s65 :: s66 :: s67 :: s68 :: s69 :: s70 :: s71 :: s72 :: s73 :: s74 :: s75 :: s76 :: s77 :: s78 :: s79 :: s80 :: s81 :: s82 :: s83 :: s84 :: s85 :: s86 :: s87 :: s88 :: s89 :: s90 :: s91 :: s92 :: s93 :: s94 :: s95 :: s96 :: s97 :: s98 :: s99 :: s100 :: s101 :: .slice (some ⟨gp, 0, none⟩) k cp :: .int .i64 (k : Int) :: .int .i64 (k : Int) :: u105 :: u106 :: u107 :: u108 :: u109 :: u110 :: u111 :: u112 :: u113 :: u114 :: u115 :: u116 :: u117 :: u118 :: u119 :: u120 :: u121 :: u122 :: u123 :: u124 :: u125 :: u126 :: u127 :: u128 :: u129 :: u130 :: u131 :: u132 :: u133 :: u134 :: u135 :: u136 :: u137 :: u138 :: u139 :: u140 :: u141 :: u142 :: u143 :: u144 :: u145 :: u146 :: u147 :: u148 :: s149 :: s150 :: s151 :: s152 :: s153 :: s154 :: s155 :: s156 :: s157 :: s158 :: s159 :: s160 :: s161 :: s162 :: s163 :: s164 :: s165 :: []).toArray, []⟩ wq) :
    Code.wp Tryd.prog (Code.loop (loopBody Tryd.f5 1)) Q0 ⟨(s0 :: s1 :: s2 :: s3 :: s4 :: s5 :: s6 :: .pointer (some ⟨gx, 0, none⟩) :: s8 :: s9 :: s10 :: s11 :: s12 :: s13 :: s14 :: s15 :: s16 :: s17 :: s18 :: s19 :: s20 :: s21 :: s22 :: s23 :: s24 :: s25 :: s26 :: s27 :: s28 :: s29 :: s30 :: s31 :: s32 :: s33 :: s34 :: s35 :: s36 :: s37 :: s38 :: s39 :: s40 :: s41 :: s42 :: s43 :: s44 :: s45 :: s46 :: s47 :: s48 :: s49 :: s50 :: s51 :: s52 :: s53 :: s54 :: s55 :: s56 :: s57 :: s58 :: s59 :: s60 :: s61 :: s62 :: s63 :: s64 :: s65 :: s66 :: s67 :: s68 :: s69 :: s70 :: s71 :: s72 :: s73 :: s74 :: s75 :: s76 :: s77 :: s78 :: s79 :: s80 :: s81 :: s82 :: s83 :: s84 :: s85 :: s86 :: s87 :: s88 :: s89 :: s90 :: s91 :: s92 :: s93 :: s94 :: s95 :: s96 :: s97 :: s98 :: s99 :: s100 :: s101 :: .slice (some ⟨gp, 0, none⟩) k cp :: .int .i64 (k : Int) :: .int .i64 0 :: s105 :: s106 :: s107 :: s108 :: s109 :: s110 :: s111 :: s112 :: s113 :: s114 :: s115 :: s116 :: s117 :: s118 :: s119 :: s120 :: s121 :: s122 :: s123 :: s124 :: s125 :: s126 :: s127 :: s128 :: s129 :: s130 :: s131 :: s132 :: s133 :: s134 :: s135 :: s136 :: s137 :: s138 :: s139 :: s140 :: s141 :: s142 :: s143 :: s144 :: s145 :: s146 :: s147 :: s148 :: s149 :: s150 :: s151 :: s152 :: s153 :: s154 :: s155 :: s156 :: s157 :: s158 :: s159 :: s160 :: s161 :: s162 :: s163 :: s164 :: s165 :: []).toArray, []⟩ w := by
  replace hexit := Lib.hid hexit
  replace hP := Lib.hid hP
  replace hx := Lib.hid hx
  replace hap := Lib.hid hap
  conv => arg 2; arg 1; whnf
  go_loopw [104] (fun v wr => ∃ j : Nat, j ≤ k ∧ v = .int .i64 (j : Int) ∧ Hid (Below w.heap.size w wr)) (fun v _ => k - (intOf v).toNat)
  case atStart => exact ⟨0, by omega, rfl, Lib.hid (Below.refl _ _)⟩
  case round =>
    obtain ⟨j, hjk, rfl, hb⟩ := hrel
    rcases Nat.lt_or_eq_of_le hjk with hlt | rfl
    · obtain ⟨y0, y1, y2⟩ := (hP.out.ext hgp hb.out) j (by omega)
      obtain ⟨x0, x1, x2⟩ := hx.out.ext hgx hb.out
      have hbz := hb.out.size
      have hgp2 : gp < wr.heap.size := by omega
      have hgx2 : gx < wr.heap.size := by omega
      obtain ⟨a1, a2⟩ := hap.out j (by omega) hlt
      generalize X[j] = y at *
      obtain ⟨y_0, y_1, y_2⟩ := y
      obtain ⟨x_0, x_1, x_2⟩ := x
      simp only at y0 y1 y2 x0 x1 x2 a1 a2
      clear hexit hP hx hap
      have hcase : (x_0 ≤ y_0 ∨ (y_0 < x_0 ∧ (y_1 ≤ x_0 ∨ (x_0 < y_1 ∧ x_1 ≤ y_1)))) ∧ (y_0 ≤ x_0 ∨ (x_0 < y_0 ∧ (x_1 ≤ y_0 ∨ (y_0 < x_1 ∧ y_1 ≤ x_1)))) := by omega
      clear a1 a2
      obtain ⟨r1, r2⟩ := hcase
      rcases r1 with r1 | ⟨r1, r1 | ⟨r1', r1⟩⟩ <;> rcases r2 with r2 | ⟨r2, r2 | ⟨r2', r2⟩⟩
      all_goals first | (exfalso; omega) | skip
      all_goals
        go_wp2_with fail
        go_roundw
        case rel => exact ⟨j + 1, by omega, by go_num, Lib.hid (hb.out.alloc hb.out.size _)⟩
        case measure => simp [intOf]; omega
    · go_wp2_with fail
      exact hexit.out _ _ _ _ _ _ _ _ _ _ _ _ _ _ _ _ _ _ _ _ _ _ _ _ _ _ _ _ _ _ _ _ _ _ _ _ _ _ _ _ _ _ _ _ _ _ _ hb.out

set_option maxHeartbeats 8000000 in
set_option maxRecDepth 100000 in
theorem nest_test (x : Nat × Nat × Nat) (gl nl cl gx : Nat) (ch : UInt8) (w : World) (h1 : x.1 < nl) (h2 : x.2.1 < nl) (hx : PairIn x gx w)
    (ho : w.cell? ⟨gl, x.1 * 4 + 2, none⟩ = some (.bool true)) (hc : w.cell? ⟨gl, x.2.1 * 4 + 3, none⟩ = some (.bool true)) (ha : w.cell? ⟨gl, x.1 * 4, none⟩ = some (.int .u8 (ch.toNat : Int))) (hb : w.cell? ⟨gl, x.2.1 * 4, none⟩ = some (.int .u8 (ch.toNat : Int)))
    (s0 s1 s2 s4 s5 s6 s8 s9 s10 s11 s12 s13 s14 s15 s16 s17 s18 s19 s20 s21 s22 s23 s24 s25 s26 s27 s28 s29 s30 s31 s32 s33 s34 s35 s36 s37 s38 s39 s40 s41 s42 s43 s44 s45 s46 s47 s48 s49 s50 s51 s52 s53 s54 s55 s56 s57 s58 s59 s60 s61 s62 s63 s64 s65 s66 s67 s68 s69 s70 s71 s72 s73 s74 s75 s76 s77 s78 s79 s80 s81 s82 s83 s84 s85 s86 s87 s88 s89 s90 s91 s92 s93 s94 s95 s96 s97 s98 s99 s100 s101 s102 s103 s104 s105 s106 s107 s108 s109 s110 s111 s112 s113 s114 s115 s116 s117 s118 s119 s120 s121 s122 s123 s124 s125 s126 s127 s128 s129 s130 s131 s132 s133 s134 s135 s136 s137 s138 s139 s140 s141 s142 s143 s144 s145 s146 s147 s148 s149 s150 s151 s152 s153 s154 s155 s156 s157 s158 s159 s160 s161 s162 s163 s164 s165 : Value) (Q : Exit → Act → World → Prop) (hpan : ∀ c a d v w, Q (.panic c) (Act.put a d v) w → Q (.panic c) a w)
    (hq : ∀ (v49 v50 v51 v52 v53 v54 v55 v56 v57 v58 v59 v60 v61 v62 v63 v64 v65 v66 v67 v68 v69 v70 v71 v72 v73 v74 v75 v76 v77 v78 : Value) (wq : World), Below w.heap.size w wq → Q .normal ⟨(s0 :: s1 :: s2 :: .slice (some ⟨gl, 0, none⟩) nl cl :: s4 :: s5 :: s6 :: .pointer (some ⟨gx, 0, none⟩) :: s8 :: s9 :: s10 :: s11 :: s12 :: s13 :: s14 :: s15 :: s16 :: s17 :: s18 :: s19 :: s20 :: s21 :: s22 :: s23 :: s24 :: s25 :: s26 :: s27 :: s28 :: s29 :: s30 :: s31 :: s32 :: s33 :: s34 :: s35 :: s36 :: s37 :: s38 :: s39 :: s40 :: s41 :: s42 :: s43 :: s44 :: s45 :: s46 :: s47 :: s48 :: v49 :: v50 :: v51 :: v52 :: v53 :: v54 :: v55 :: v56 :: v57 :: v58 :: v59 :: v60 :: v61 :: v62 :: v63 :: v64 :: v65 :: v66 :: v67 :: v68 :: v69 :: v70 :: v71 :: v72 :: v73 :: v74 :: v75 :: v76 :: v77 :: v78 :: .bool false :: s80 :: s81 :: s82 :: s83 :: s84 :: s85 :: s86 :: s87 :: s88 :: s89 :: s90 :: s91 :: s92 :: s93 :: s94 :: s95 :: s96 :: s97 :: s98 :: s99 :: s100 :: s101 :: s102 :: s103 :: s104 :: s105 :: s106 :: s107 :: s108 :: s109 :: s110 :: s111 :: s112 :: s113 :: s114 :: s115 :: s116 :: s117 :: s118 :: s119 :: s120 :: s121 :: s122 :: s123 :: s124 :: s125 :: s126 :: s127 :: s128 :: s129 :: s130 :: s131 :: s132 :: s133 :: s134 :: s135 :: s136 :: s137 :: s138 :: s139 :: s140 :: s141 :: s142 :: s143 :: s144 :: s145 :: s146 :: s147 :: s148 :: s149 :: s150 :: s151 :: s152 :: s153 :: s154 :: s155 :: s156 :: s157 :: s158 :: s159 :: s160 :: s161 :: s162 :: s163 :: s164 :: s165 :: []).toArray, []⟩ wq) :
    Code.wp Tryd.prog (regionAt Tryd.f5 9) Q ⟨(s0 :: s1 :: s2 :: .slice (some ⟨gl, 0, none⟩) nl cl :: s4 :: s5 :: s6 :: .pointer (some ⟨gx, 0, none⟩) :: s8 :: s9 :: s10 :: s11 :: s12 :: s13 :: s14 :: s15 :: s16 :: s17 :: s18 :: s19 :: s20 :: s21 :: s22 :: s23 :: s24 :: s25 :: s26 :: s27 :: s28 :: s29 :: s30 :: s31 :: s32 :: s33 :: s34 :: s35 :: s36 :: s37 :: s38 :: s39 :: s40 :: s41 :: s42 :: s43 :: s44 :: s45 :: s46 :: s47 :: s48 :: s49 :: s50 :: s51 :: s52 :: s53 :: s54 :: s55 :: s56 :: s57 :: s58 :: s59 :: s60 :: s61 :: s62 :: s63 :: s64 :: s65 :: s66 :: s67 :: s68 :: s69 :: s70 :: s71 :: s72 :: s73 :: s74 :: s75 :: s76 :: s77 :: s78 :: s79 :: s80 :: s81 :: s82 :: s83 :: s84 :: s85 :: s86 :: s87 :: s88 :: s89 :: s90 :: s91 :: s92 :: s93 :: s94 :: s95 :: s96 :: s97 :: s98 :: s99 :: s100 :: s101 :: s102 :: s103 :: s104 :: s105 :: s106 :: s107 :: s108 :: s109 :: s110 :: s111 :: s112 :: s113 :: s114 :: s115 :: s116 :: s117 :: s118 :: s119 :: s120 :: s121 :: s122 :: s123 :: s124 :: s125 :: s126 :: s127 :: s128 :: s129 :: s130 :: s131 :: s132 :: s133 :: s134 :: s135 :: s136 :: s137 :: s138 :: s139 :: s140 :: s141 :: s142 :: s143 :: s144 :: s145 :: s146 :: s147 :: s148 :: s149 :: s150 :: s151 :: s152 :: s153 :: s154 :: s155 :: s156 :: s157 :: s158 :: s159 :: s160 :: s161 :: s162 :: s163 :: s164 :: s165 :: []).toArray, []⟩ w := by
  replace hq := Lib.hid hq
  replace hpan := Lib.hid hpan
  obtain ⟨x0, x1, x2⟩ := hx
  have t0 : (((ch.toNat : Nat) : Int) != ((ch.toNat : Nat) : Int)) = false := by simp
  obtain ⟨a, b, d⟩ := x
  simp only at *
  generalize ch.toNat = n at *
  conv => arg 2; whnf
  go_quiet (fail)
  exact hq.out _ _ _ _ _ _ _ _ _ _ _ _ _ _ _ _ _ _ _ _ _ _ _ _ _ _ _ _ _ _ _ (below_drewN (Below.refl _ _) _)

/-- numbers in a block of thirty-two -/
def UsedAt (U : Nat → Nat) (g : Nat) (w : World) : Prop := ∃ (cs : Array Value) (e : TypeId), w.heap[g]? = some (.cells cs e (0, 0)) ∧ cs.size = 32 ∧ ∀ i, i < 32 → cs[i]? = some (.int .i64 (U i : Int))
theorem UsedAt.lt {U : Nat → Nat} {g : Nat} {w : World} (h : UsedAt U g w) : g < w.heap.size := by obtain ⟨_, _, h, _⟩ := h; exact (Array.getElem?_eq_some_iff.1 h).1
theorem UsedAt.cell {U : Nat → Nat} {g : Nat} {w : World} (h : UsedAt U g w) {i : Nat} (hi : i < 32) : w.cell? ⟨g, i, none⟩ = some (.int .i64 (U i : Int)) := by
  obtain ⟨cs, e, h1, h2, h3⟩ := h; rw [cell_of_row w g i cs e _ h1]; exact h3 i hi
theorem UsedAt.fz {U : Nat → Nat} {g : Nat} {w : World} (h : UsedAt U g w) (i : Nat) : w.frozen? ⟨g, i, none⟩ = false := by
  obtain ⟨cs, e, h1, h2, h3⟩ := h; exact frozen_of_row w g i cs e h1
theorem UsedAt.ext {U : Nat → Nat} {g : Nat} {w u : World} (h : UsedAt U g w) (hu : Below w.heap.size w u) : UsedAt U g u := by
  have hl := h.lt
  obtain ⟨cs, e, h1, h2, h3⟩ := h; exact ⟨cs, e, (hu.block g hl).trans h1, h2, h3⟩
theorem UsedAt.set {U : Nat → Nat} {g : Nat} {w : World} (h : UsedAt U g w) {i : Nat} (hi : i < 32) (v : Nat) : UsedAt (fun j => if j = i then v else U j) g (w.setCell ⟨g, i, none⟩ (.int .i64 (v : Int))) := by
  obtain ⟨cs, e, h1, h2, h3⟩ := h
  refine ⟨cs.setIfInBounds i (.int .i64 (v : Int)), e, heap_setCell_same w g i cs e _ h1, by simpa using h2, fun j hj => ?_⟩
  rw [Array.getElem?_setIfInBounds]
  by_cases hij : i = j
  · subst hij; rw [if_pos rfl, if_pos (by omega)]; simp
  · rw [if_neg hij]; simp only [show ¬ j = i from fun h => hij h.symm, if_false]; exact h3 j hj
set_option maxHeartbeats 8000000 in
set_option maxRecDepth 100000 in
theorem nest_stores (a b d gu gx p q : Nat) (w : World) (ha : a < 32) (hb : b < 32) (hp : p ≤ 1000) (hq1 : q ≤ 1000) (hd : d ≤ 2) (hab : a ≠ b) (hgx : gx ≠ gu) (hx : PairIn (a, b, d) gx w)
    (h1 : w.cell? ⟨gu, a, none⟩ = some (.int .i64 (p : Int))) (h2 : w.cell? ⟨gu, b, none⟩ = some (.int .i64 (q : Int))) (fz1 : w.frozen? ⟨gu, a, none⟩ = false) (fz2 : w.frozen? ⟨gu, b, none⟩ = false)
    (s0 s1 s2 s3 s4 s6 s8 s9 s10 s11 s12 s13 s14 s15 s16 s17 s18 s19 s20 s21 s22 s23 s24 s25 s26 s27 s28 s29 s30 s31 s32 s33 s34 s35 s36 s37 s38 s39 s40 s41 s42 s43 s44 s45 s46 s47 s48 s49 s50 s51 s52 s53 s54 s55 s56 s57 s58 s59 s60 s61 s62 s63 s64 s65 s66 s67 s68 s69 s70 s71 s72 s73 s74 s75 s76 s77 s78 s79 s80 s81 s82 s83 s84 s85 s86 s87 s88 s89 s90 s91 s92 s93 s94 s95 s96 s97 s98 s99 s100 s101 s102 s103 s104 s105 s106 s107 s108 s109 s110 s111 s112 s113 s114 s115 s116 s117 s118 s119 s120 s121 s122 s123 s124 s125 s126 s127 s128 s129 s130 s131 s132 s133 s134 s135 s136 s137 s138 s139 s140 s141 s142 s143 s144 s145 s146 s147 s148 s149 s150 s151 s152 s153 s154 s155 s156 s157 s158 s159 s160 s161 s162 s163 s164 s165 : Value) (Q : Exit → Act → World → Prop) (hpan : ∀ c a d v w, Q (.panic c) (Act.put a d v) w → Q (.panic c) a w)
    (hk : ∀ (v80 v81 v82 v83 v84 v85 v86 v87 v88 v89 v90 v91 v92 v93 v94 v95 v96 v97 v98 v99 : Value) (wq : World), wq = ((w.setCell ⟨gu, a, none⟩ (.int .i64 ((p : Int) + d))).setCell ⟨gu, b, none⟩ (.int .i64 ((q : Int) + d))).drew → Q .normal ⟨(s0 :: s1 :: s2 :: s3 :: s4 :: .pointer (some ⟨gu, 0, none⟩) :: s6 :: .pointer (some ⟨gx, 0, none⟩) :: s8 :: s9 :: s10 :: s11 :: s12 :: s13 :: s14 :: s15 :: s16 :: s17 :: s18 :: s19 :: s20 :: s21 :: s22 :: s23 :: s24 :: s25 :: s26 :: s27 :: s28 :: s29 :: s30 :: s31 :: s32 :: s33 :: s34 :: s35 :: s36 :: s37 :: s38 :: s39 :: s40 :: s41 :: s42 :: s43 :: s44 :: s45 :: s46 :: s47 :: s48 :: s49 :: s50 :: s51 :: s52 :: s53 :: s54 :: s55 :: s56 :: s57 :: s58 :: s59 :: s60 :: s61 :: s62 :: s63 :: s64 :: s65 :: s66 :: s67 :: s68 :: s69 :: s70 :: s71 :: s72 :: s73 :: s74 :: s75 :: s76 :: s77 :: s78 :: s79 :: v80 :: v81 :: v82 :: v83 :: v84 :: v85 :: v86 :: v87 :: v88 :: v89 :: v90 :: v91 :: v92 :: v93 :: v94 :: v95 :: v96 :: v97 :: v98 :: v99 :: s100 :: s101 :: s102 :: s103 :: s104 :: s105 :: s106 :: s107 :: s108 :: s109 :: s110 :: s111 :: s112 :: s113 :: s114 :: s115 :: s116 :: s117 :: s118 :: s119 :: s120 :: s121 :: s122 :: s123 :: s124 :: s125 :: s126 :: s127 :: s128 :: s129 :: s130 :: s131 :: s132 :: s133 :: s134 :: s135 :: s136 :: s137 :: s138 :: s139 :: s140 :: s141 :: s142 :: s143 :: s144 :: s145 :: s146 :: s147 :: s148 :: s149 :: s150 :: s151 :: s152 :: s153 :: s154 :: s155 :: s156 :: s157 :: s158 :: s159 :: s160 :: s161 :: s162 :: s163 :: s164 :: s165 :: []).toArray, []⟩ wq) :
    Code.wp Tryd.prog (regionAt Tryd.f5 11) Q ⟨(s0 :: s1 :: s2 :: s3 :: s4 :: .pointer (some ⟨gu, 0, none⟩) :: s6 :: .pointer (some ⟨gx, 0, none⟩) :: s8 :: s9 :: s10 :: s11 :: s12 :: s13 :: s14 :: s15 :: s16 :: s17 :: s18 :: s19 :: s20 :: s21 :: s22 :: s23 :: s24 :: s25 :: s26 :: s27 :: s28 :: s29 :: s30 :: s31 :: s32 :: s33 :: s34 :: s35 :: s36 :: s37 :: s38 :: s39 :: s40 :: s41 :: s42 :: s43 :: s44 :: s45 :: s46 :: s47 :: s48 :: s49 :: s50 :: s51 :: s52 :: s53 :: s54 :: s55 :: s56 :: s57 :: s58 :: s59 :: s60 :: s61 :: s62 :: s63 :: s64 :: s65 :: s66 :: s67 :: s68 :: s69 :: s70 :: s71 :: s72 :: s73 :: s74 :: s75 :: s76 :: s77 :: s78 :: s79 :: s80 :: s81 :: s82 :: s83 :: s84 :: s85 :: s86 :: s87 :: s88 :: s89 :: s90 :: s91 :: s92 :: s93 :: s94 :: s95 :: s96 :: s97 :: s98 :: s99 :: s100 :: s101 :: s102 :: s103 :: s104 :: s105 :: s106 :: s107 :: s108 :: s109 :: s110 :: s111 :: s112 :: s113 :: s114 :: s115 :: s116 :: s117 :: s118 :: s119 :: s120 :: s121 :: s122 :: s123 :: s124 :: s125 :: s126 :: s127 :: s128 :: s129 :: s130 :: s131 :: s132 :: s133 :: s134 :: s135 :: s136 :: s137 :: s138 :: s139 :: s140 :: s141 :: s142 :: s143 :: s144 :: s145 :: s146 :: s147 :: s148 :: s149 :: s150 :: s151 :: s152 :: s153 :: s154 :: s155 :: s156 :: s157 :: s158 :: s159 :: s160 :: s161 :: s162 :: s163 :: s164 :: s165 :: []).toArray, []⟩ w := by
  have hwr1 : IntKind.i64.wrap ((p : Int) + d) = (p : Int) + d := by rw [IntKind.wrap_i64]; omega
  have hwr2 : IntKind.i64.wrap ((q : Int) + d) = (q : Int) + d := by rw [IntKind.wrap_i64]; omega
  have h2' : (w.setCell ⟨gu, a, none⟩ (.int .i64 ((p : Int) + d))).cell? ⟨gu, b, none⟩ = some (.int .i64 (q : Int)) := by
    rw [World.cell?_setCell_other w ⟨gu, a, none⟩ ⟨gu, b, none⟩ _ (by intro h; injection h with _ h2 _; exact hab h2)]; exact h2
  replace hk := Lib.hid hk
  replace hpan := Lib.hid hpan
  have hS : (fun u => PairIn (a, b, d) gx u) w.drew := hx
  have ha' : (a : Int) < 32 := by omega
  have hb' : (b : Int) < 32 := by omega
  conv => arg 2; whnf
  refine wp_region_tree (.rd 0 (.rd 1 (.rd 2 (.rd 3 (.rd 4 (.rd 5 (.rd 6 (.rd 8 (.rd 9 (.rd 11 (.rd 12 (.rd 13 (.rd 15 (.rd 16 (.fk 7 (.rd 10 (.mk 14 (.rd 17 (.rd 18 (.mk 19 (.rd 20 (.mk 21 .fin))))))) 14 (.rd 17 (.mk 7 (.rd 10 (.rd 18 (.mk 19 (.rd 20 (.mk 21 .fin)))))))))))))))))))))) (fun u => PairIn (a, b, d) gx u) hS (by kernel_rfl) (by kernel_rfl) (by kernel_rfl) (fun _ _ _ _ _ h => hpan.out _ _ _ _ _ h) ?_
  (refine wpT_rd rfl ?_; intro K hK; go_simp; refine hK _ _ _ ?_; clear hK K)
  (refine wpT_read (.int .i64 (a : Int)) rfl rfl hS (fun u hu => by have h1 := hu.1; have h2 := hu.2.1; have h3 := hu.2.2; simp only at h1 h2 h3; go_simp) ?_)
  (refine wpT_rd rfl ?_; intro K hK; go_simp; refine hK _ _ _ ?_; clear hK K)
  (refine wpT_read (.int .i64 (b : Int)) rfl rfl hS (fun u hu => by have h1 := hu.1; have h2 := hu.2.1; have h3 := hu.2.2; simp only at h1 h2 h3; go_simp) ?_)
  (refine wpT_rd rfl ?_; intro K hK; go_simp; refine hK _ _ _ ?_; clear hK K)
  (refine wpT_read (.int .i64 (a : Int)) rfl rfl hS (fun u hu => by have h1 := hu.1; have h2 := hu.2.1; have h3 := hu.2.2; simp only at h1 h2 h3; go_simp) ?_)
  (refine wpT_rd rfl ?_; intro K hK; go_simp; refine hK _ _ _ ?_; clear hK K)
  (refine wpT_rd rfl ?_; intro K hK; go_simp; refine hK _ _ _ ?_; clear hK K)
  (refine wpT_read (.int .i64 (d : Int)) rfl rfl hS (fun u hu => by have h1 := hu.1; have h2 := hu.2.1; have h3 := hu.2.2; simp only at h1 h2 h3; go_simp) ?_)
  (refine wpT_rd rfl ?_; intro K hK; go_simp; refine hK _ _ _ ?_; clear hK K)
  (refine wpT_read (.int .i64 (b : Int)) rfl rfl hS (fun u hu => by have h1 := hu.1; have h2 := hu.2.1; have h3 := hu.2.2; simp only at h1 h2 h3; go_simp) ?_)
  (refine wpT_rd rfl ?_; intro K hK; go_simp; refine hK _ _ _ ?_; clear hK K)
  (refine wpT_rd rfl ?_; intro K hK; go_simp; refine hK _ _ _ ?_; clear hK K)
  (refine wpT_read (.int .i64 (d : Int)) rfl rfl hS (fun u hu => by have h1 := hu.1; have h2 := hu.2.1; have h3 := hu.2.2; simp only at h1 h2 h3; go_simp) ?_)
  refine wpT_fk ?wa ?wb
  case' wa =>
    (refine wpT_mk rfl ?_; intro K hK; go_simp; refine ⟨fun u => PairIn (a, b, d) gx u, ?_, fun _ h => h, hK _ _ _ ?_⟩; (first | exact hx | exact hx.set hgx | exact (hx.set hgx).set hgx); clear hK K)
    (refine wpT_rd rfl ?_; intro K hK; go_simp; refine hK _ _ _ ?_; clear hK K)
    (refine wpT_mk rfl ?_; intro K hK; go_simp; refine ⟨fun u => PairIn (a, b, d) gx u, ?_, fun _ h => h, hK _ _ _ ?_⟩; (first | exact hx | exact hx.set hgx | exact (hx.set hgx).set hgx); clear hK K)
    (refine wpT_rd rfl ?_; intro K hK; go_simp; refine hK _ _ _ ?_; clear hK K)
    (refine wpT_rd rfl ?_; intro K hK; go_simp; refine hK _ _ _ ?_; clear hK K)
    (refine wpT_mk rfl ?_; intro K hK; go_simp; refine ⟨fun u => PairIn (a, b, d) gx u, ?_, fun _ h => h, hK _ _ _ ?_⟩; (first | exact hx | exact hx.set hgx | exact (hx.set hgx).set hgx); clear hK K)
    (refine wpT_rd rfl ?_; intro K hK; go_simp; refine hK _ _ _ ?_; clear hK K)
    (refine wpT_mk rfl ?_; intro K hK; go_simp; refine ⟨fun u => PairIn (a, b, d) gx u, ?_, fun _ h => h, hK _ _ _ ?_⟩; (first | exact hx | exact hx.set hgx | exact (hx.set hgx).set hgx); clear hK K)
    refine wpT_fin ?_
    exact hk.out _ _ _ _ _ _ _ _ _ _ _ _ _ _ _ _ _ _ _ _ _ rfl
  case' wb =>
    (refine wpT_mk rfl ?_; intro K hK; go_simp; refine ⟨fun u => PairIn (a, b, d) gx u, ?_, fun _ h => h, hK _ _ _ ?_⟩; (first | exact hx | exact hx.set hgx | exact (hx.set hgx).set hgx); clear hK K)
    (refine wpT_rd rfl ?_; intro K hK; go_simp; refine hK _ _ _ ?_; clear hK K)
    (refine wpT_mk rfl ?_; intro K hK; go_simp; refine ⟨fun u => PairIn (a, b, d) gx u, ?_, fun _ h => h, hK _ _ _ ?_⟩; (first | exact hx | exact hx.set hgx | exact (hx.set hgx).set hgx); clear hK K)
    (refine wpT_rd rfl ?_; intro K hK; go_simp; refine hK _ _ _ ?_; clear hK K)
    (refine wpT_rd rfl ?_; intro K hK; go_simp; refine hK _ _ _ ?_; clear hK K)
    (refine wpT_mk rfl ?_; intro K hK; go_simp; refine ⟨fun u => PairIn (a, b, d) gx u, ?_, fun _ h => h, hK _ _ _ ?_⟩; (first | exact hx | exact hx.set hgx | exact (hx.set hgx).set hgx); clear hK K)
    (refine wpT_rd rfl ?_; intro K hK; go_simp; refine hK _ _ _ ?_; clear hK K)
    (refine wpT_mk rfl ?_; intro K hK; go_simp; refine ⟨fun u => PairIn (a, b, d) gx u, ?_, fun _ h => h, hK _ _ _ ?_⟩; (first | exact hx | exact hx.set hgx | exact (hx.set hgx).set hgx); clear hK K)
    refine wpT_fin ?_
    exact hk.out _ _ _ _ _ _ _ _ _ _ _ _ _ _ _ _ _ _ _ _ _ rfl
end Go.Proofs.YtboeaofcioolnaaDoor
