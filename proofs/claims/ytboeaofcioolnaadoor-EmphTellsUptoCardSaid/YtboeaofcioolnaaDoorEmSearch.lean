/- The document's own pairs of runs: the nearest run ahead that opens. -/
import Derived.Test.YtboeaofcioolnaaDoorEmMem
import Derived.Test.YtboeaofcioolnaaDoorByt
import Derived.Test.YtboeaofcioolnaaDoorLoops
import Derived.BigRegion
namespace Go.Proofs.YtboeaofcioolnaaDoor
open Go.RowKit
attribute [local go_sem] canOp readsAs readUpon

theorem lcells_at {L : List Nat} {i : Nat} (h : i < L.length) : (lcells L)[i]? = some (.int .i64 (L[i] : Int)) := by simp [lcells, List.getElem?_eq_getElem h]
theorem left_cell {w : World} {B g n c : Nat} {L : List Nat} (h : w.ownsRow B 3 1 (.slice (some ⟨g, 0, none⟩) n c) n (lcells L)) {k : Nat} (hk : k < L.length) : w.cell? ⟨g, k, none⟩ = some (.int .i64 (L[k] : Int)) := by
  have := h.cells (g := g) rfl k _ (lcells_at hk)
  rwa [show (⟨g, 0, none⟩ : Addr).add k = ⟨g, k, none⟩ from by unfold Addr.add; split <;> simp_all] at this
/-- runs lie in a block -/
def RunsAt (l : List Em.R) (b o : Nat) (w : World) : Prop := b < w.heap.size ∧ ∀ k (hk : k < l.length), w.cell? ⟨b, o + k * 4, none⟩ = some (.int .u8 (l[k].ch.toNat : Int)) ∧ w.cell? ⟨b, o + k * 4 + 1, none⟩ = some (.int .i64 l[k].n) ∧
      w.cell? ⟨b, o + k * 4 + 2, none⟩ = some (.bool l[k].o) ∧ w.cell? ⟨b, o + k * 4 + 3, none⟩ = some (.bool l[k].c)
theorem RunsAt.ext {l : List Em.R} {b o : Nat} {w u : World} (h : RunsAt l b o w) (hu : Below w.heap.size w u) : RunsAt l b o u :=
  ⟨Nat.lt_of_lt_of_le h.1 hu.size, fun k hk => by
    obtain ⟨x0, x1, x2, x3⟩ := h.2 k hk
    exact ⟨(hu.cell (p := ⟨b, o + k * 4, none⟩) h.1).trans x0, (hu.cell (p := ⟨b, o + k * 4 + 1, none⟩) h.1).trans x1, (hu.cell (p := ⟨b, o + k * 4 + 2, none⟩) h.1).trans x2, (hu.cell (p := ⟨b, o + k * 4 + 3, none⟩) h.1).trans x3⟩⟩
/-- what is left lies in a block -/
def LeftAt (L : List Nat) (g : Nat) (w : World) : Prop := g < w.heap.size ∧ ∀ k (hk : k < L.length), w.cell? ⟨g, k, none⟩ = some (.int .i64 (L[k] : Int))
theorem LeftAt.ext {L : List Nat} {g : Nat} {w u : World} (h : LeftAt L g w) (hu : Below w.heap.size w u) : LeftAt L g u :=
  ⟨Nat.lt_of_lt_of_le h.1 hu.size, fun k hk => (hu.cell (p := ⟨g, k, none⟩) h.1).trans (h.2 k hk)⟩

/-- where the search stands -/
def SeekAt (l : List Em.R) (L : List Nat) (k : Nat) (w3 : World) (v : Value) (wq : World) : Prop :=
  ∃ (z : Int) (j : Nat), v = .int .i64 z ∧ (j : Int) = z + 1 ∧ j ≤ k ∧ Hid (Em.opener l L k k = Em.opener l L k j) ∧ Hid (Below w3.heap.size w3 wq)
def Found (l : List Em.R) (L : List Nat) (k : Nat) (z : Int) : Prop := (z = -1 ∧ Em.opener l L k k = none) ∨ ∃ i : Nat, z = (i : Int) ∧ i < k ∧ Em.opener l L k k = some i

set_option pp.deepTerms true in
set_option pp.maxSteps 100000 in
set_option maxHeartbeats 8000000 in
set_option maxRecDepth 100000 in
theorem em_fits (l : List Em.R) (L : List Nat) (b o c g c1 k i : Nat) (wr : World) (hk : k < l.length) (hil : i < l.length) (hik : i < k) (hiL : i < L.length) (hlen : l.length ≤ 1000000) (hR : RunsAt l b o wr) (hF : LeftAt L g wr)
    (hro : l[i].o = true) (ht : ((l[i].ch.toNat : Int) == (l[k].ch.toNat : Int)) = true) (hlp : (0 : Int) < (L[i] : Int))
    (s1 s2 s4 s5 s6 s9 s10 s11 s12 s13 s14 s15 s16 s17 s18 s19 s20 s21 s22 s23 s24 s25 s26 s27 s28 s29 s30 s31 s32 s33 s34 s35 s36 s37 s38 s39 s40 s41 s42 s86 s87 s88 s89 s90 s91 s92 s93 s94 s95 s96 s97 s98 s99 s100 s101 s102 s103 s104 s105 s106 s107 s108 s109 s110 s111 s112 s113 s114 s115 s116 s117 s118 s119 s120 s121 s122 s123 s124 s125 s126 s127 s128 s129 s130 s131 s132 s133 s134 s135 s136 u43 u44 u45 u46 u47 u48 u49 u50 u51 u52 u53 u54 u55 u56 u57 u58 u59 u60 u61 u62 u63 u64 u65 u66 u67 u68 u69 u70 u71 u72 u73 u74 u75 u76 u77 u78 u79 u80 u81 u82 u83 u84 u85 : Value) (Qn : Exit → Act → World → Prop)
    (hpan : ∀ c a d v w, Qn (.panic c) (Act.put a d v) w → Qn (.panic c) a w)
    (hno : ∀ (v43 v44 v45 v46 v47 v48 v49 v50 v51 v52 v53 v54 v55 v56 v57 v58 v59 v60 v61 v62 v63 v64 v65 v66 v67 v68 v69 v70 v71 v72 v73 v74 v75 v76 v77 v78 v79 v80 v81 v82 v83 v84 v85 : Value) (wq : World), Em.fits l[i] l[k] = false → Below wr.heap.size wr wq → Qn .normal ⟨(.slice (some ⟨b, o, none⟩) l.length c :: s1 :: s2 :: .slice (some ⟨g, 0, none⟩) l.length c1 :: s4 :: s5 :: s6 :: .int .i64 (k : Int) :: .int .i64 ((i : Int) - 1) :: s9 :: s10 :: s11 :: s12 :: s13 :: s14 :: s15 :: s16 :: s17 :: s18 :: s19 :: s20 :: s21 :: s22 :: s23 :: s24 :: s25 :: s26 :: s27 :: s28 :: s29 :: s30 :: s31 :: s32 :: s33 :: s34 :: s35 :: s36 :: s37 :: s38 :: s39 :: s40 :: s41 :: s42 :: v43 :: v44 :: v45 :: v46 :: v47 :: v48 :: v49 :: v50 :: v51 :: v52 :: v53 :: v54 :: v55 :: v56 :: v57 :: v58 :: v59 :: v60 :: v61 :: v62 :: v63 :: v64 :: v65 :: v66 :: v67 :: v68 :: v69 :: v70 :: v71 :: v72 :: v73 :: v74 :: v75 :: v76 :: v77 :: v78 :: v79 :: v80 :: v81 :: v82 :: v83 :: v84 :: v85 :: s86 :: s87 :: s88 :: s89 :: s90 :: s91 :: s92 :: s93 :: s94 :: s95 :: s96 :: s97 :: s98 :: s99 :: s100 :: s101 :: s102 :: s103 :: s104 :: s105 :: s106 :: s107 :: s108 :: s109 :: s110 :: s111 :: s112 :: s113 :: s114 :: s115 :: s116 :: s117 :: s118 :: s119 :: s120 :: s121 :: s122 :: s123 :: s124 :: s125 :: s126 :: s127 :: s128 :: s129 :: s130 :: s131 :: s132 :: s133 :: s134 :: s135 :: s136 :: []).toArray, []⟩ wq)
    (hyes : ∀ (v43 v44 v45 v46 v47 v48 v49 v50 v51 v52 v53 v54 v55 v56 v57 v58 v59 v60 v61 v62 v63 v64 v65 v66 v67 v68 v69 v70 v71 v72 v73 v74 v75 v76 v77 v78 v79 v80 v81 v82 v83 v84 v85 : Value) (wq : World), Em.fits l[i] l[k] = true → Below wr.heap.size wr wq → Qn (.exit 6) ⟨(.slice (some ⟨b, o, none⟩) l.length c :: s1 :: s2 :: .slice (some ⟨g, 0, none⟩) l.length c1 :: s4 :: s5 :: s6 :: .int .i64 (k : Int) :: .int .i64 (i : Int) :: s9 :: s10 :: s11 :: s12 :: s13 :: s14 :: s15 :: s16 :: s17 :: s18 :: s19 :: s20 :: s21 :: s22 :: s23 :: s24 :: s25 :: s26 :: s27 :: s28 :: s29 :: s30 :: s31 :: s32 :: s33 :: s34 :: s35 :: s36 :: s37 :: s38 :: s39 :: s40 :: s41 :: s42 :: v43 :: v44 :: v45 :: v46 :: v47 :: v48 :: v49 :: v50 :: v51 :: v52 :: v53 :: v54 :: v55 :: v56 :: v57 :: v58 :: v59 :: v60 :: v61 :: v62 :: v63 :: v64 :: v65 :: v66 :: v67 :: v68 :: v69 :: v70 :: v71 :: v72 :: v73 :: v74 :: v75 :: v76 :: v77 :: v78 :: v79 :: v80 :: v81 :: v82 :: v83 :: v84 :: v85 :: s86 :: s87 :: s88 :: s89 :: s90 :: s91 :: s92 :: s93 :: s94 :: s95 :: s96 :: s97 :: s98 :: s99 :: s100 :: s101 :: s102 :: s103 :: s104 :: s105 :: s106 :: s107 :: s108 :: s109 :: s110 :: s111 :: s112 :: s113 :: s114 :: s115 :: s116 :: s117 :: s118 :: s119 :: s120 :: s121 :: s122 :: s123 :: s124 :: s125 :: s126 :: s127 :: s128 :: s129 :: s130 :: s131 :: s132 :: s133 :: s134 :: s135 :: s136 :: []).toArray, []⟩ wq) :
    Code.wp Tryd.prog (loopBody Tryd.f15 3) Qn ⟨(.slice (some ⟨b, o, none⟩) l.length c :: s1 :: s2 :: .slice (some ⟨g, 0, none⟩) l.length c1 :: s4 :: s5 :: s6 :: .int .i64 (k : Int) :: .int .i64 (i : Int) :: s9 :: s10 :: s11 :: s12 :: s13 :: s14 :: s15 :: s16 :: s17 :: s18 :: s19 :: s20 :: s21 :: s22 :: s23 :: s24 :: s25 :: s26 :: s27 :: s28 :: s29 :: s30 :: s31 :: s32 :: s33 :: s34 :: s35 :: s36 :: s37 :: s38 :: s39 :: s40 :: s41 :: s42 :: u43 :: u44 :: u45 :: u46 :: u47 :: u48 :: u49 :: u50 :: u51 :: u52 :: u53 :: u54 :: u55 :: u56 :: u57 :: u58 :: u59 :: u60 :: u61 :: u62 :: u63 :: u64 :: u65 :: u66 :: u67 :: u68 :: u69 :: u70 :: u71 :: u72 :: u73 :: u74 :: u75 :: u76 :: u77 :: u78 :: u79 :: u80 :: u81 :: u82 :: u83 :: u84 :: u85 :: s86 :: s87 :: s88 :: s89 :: s90 :: s91 :: s92 :: s93 :: s94 :: s95 :: s96 :: s97 :: s98 :: s99 :: s100 :: s101 :: s102 :: s103 :: s104 :: s105 :: s106 :: s107 :: s108 :: s109 :: s110 :: s111 :: s112 :: s113 :: s114 :: s115 :: s116 :: s117 :: s118 :: s119 :: s120 :: s121 :: s122 :: s123 :: s124 :: s125 :: s126 :: s127 :: s128 :: s129 :: s130 :: s131 :: s132 :: s133 :: s134 :: s135 :: s136 :: []).toArray, []⟩ wr := by
  have q := fun w => rfits_any l[i] l[k] w
  have hbw2 : b < wr.heap.size := hR.1
  have hgw2 : g < wr.heap.size := hF.1
  have hSd : Hid (∀ u : World, Ext wr u → (u.cell? ⟨b, o + i * 4, none⟩ = some (.int .u8 (l[i].ch.toNat : Int)) ∧ u.cell? ⟨b, o + i * 4 + 1, none⟩ = some (.int .i64 l[i].n) ∧ u.cell? ⟨b, o + i * 4 + 2, none⟩ = some (.bool true) ∧ u.cell? ⟨b, o + i * 4 + 3, none⟩ = some (.bool l[i].c)) ∧
      (u.cell? ⟨b, o + k * 4, none⟩ = some (.int .u8 (l[k].ch.toNat : Int)) ∧ u.cell? ⟨b, o + k * 4 + 1, none⟩ = some (.int .i64 l[k].n) ∧ u.cell? ⟨b, o + k * 4 + 2, none⟩ = some (.bool l[k].o) ∧ u.cell? ⟨b, o + k * 4 + 3, none⟩ = some (.bool l[k].c)) ∧
      u.cell? ⟨g, i, none⟩ = some (.int .i64 (L[i] : Int))) := Lib.hid fun u hu => by
    have a1 := (hR.ext hu).2 i hil
    rw [hro] at a1
    exact ⟨a1, (hR.ext hu).2 k hk, (hF.ext hu).2 i hiL⟩
  have hS : Ext wr wr.drew := ext_drew wr
  obtain ⟨F, hFv⟩ : ∃ F, F = Em.fits l[i] l[k] := ⟨_, rfl⟩
  rw [← hFv] at q hno hyes
  unfold aval at q
  rw [hro] at q
  replace hno := Lib.hid hno
  replace hyes := Lib.hid hyes
  replace hpan := Lib.hid hpan
  clear hFv hro hR hF
  obtain ⟨⟨z0, z1, z2, z3⟩, ⟨t0, t1, t2, t3⟩, t4⟩ := hSd.out wr.drew hS
  have hln : 0 < L[i] := by omega
  have hld : decide (0 < L[i]) = true := decide_eq_true hln
  generalize l[i].ch.toNat = ci at *
  generalize l[k].ch.toNat = ck at *
  generalize l[i].n = ni at *
  generalize l[k].n = nk at *
  generalize l[i].c = cli at *
  generalize l[k].c = clk at *
  generalize l[k].o = ok_ at *
  generalize L[i] = li at *
  conv => arg 2; whnf
  go_wp2_with fail
  refine wp_region_can ((true, 0) :: (true, 1) :: (true, 2) :: (true, 3) :: (true, 4) :: (true, 5) :: (true, 6) :: (true, 7) :: (true, 8) :: (true, 9) :: (true, 10) :: (true, 11) :: (true, 12) :: (true, 13) :: (true, 14) :: (true, 15) :: (true, 16) :: (true, 17) :: (true, 18) :: (true, 19) :: (true, 20) :: (true, 21) :: (true, 22) :: (true, 23) :: (true, 24) :: (true, 25) :: (true, 26) :: (true, 27) :: (true, 28) :: (true, 29) :: (true, 30) :: (true, 31) :: (true, 32) :: (true, 33) :: (true, 34) :: (true, 35) :: (true, 36) :: (false, 37) :: (true, 38) :: (true, 39) :: (true, 40) :: []) (Ext wr) hS (by kernel_rfl) (by kernel_rfl) (by kernel_rfl) (fun _ _ _ _ _ h => hpan.out _ _ _ _ _ h) ?_
  iterate 37 (first | refine wpCan_move rfl ?_ | (refine wpCan_cons rfl ?_; intro K hK; go_simp; first | (refine hK _ _ _ ?_; clear hK K) | (refine ⟨fun w' hw' => by obtain ⟨⟨z0, z1, z2, z3⟩, ⟨t0, t1, t2, t3⟩, t4⟩ := hSd.out w' hw'; go_simp, hK _ _ _ ?_⟩; clear hK K)))
  refine wpCan_cons rfl ?_
  intro K hK
  go_simp
  refine (q _).mono ?_
  rintro e w4 ⟨rfl, hb4⟩
  replace hb4 := ext_trans (ext_drew wr) hb4
  refine can_ext hb4 (hK _ _ _ ?_)
  clear hK K q
  replace hb4 := Lib.hid hb4
  cases F
  · repeat (first | refine wpCan_move rfl ?_ | (refine wpCan_cons rfl ?_; intro K hK; go_simp; refine hK _ _ _ ?_; clear hK K))
    refine wpCan_nil ?_
    go_wp2_with fail
    exact hno.out _ _ _ _ _ _ _ _ _ _ _ _ _ _ _ _ _ _ _ _ _ _ _ _ _ _ _ _ _ _ _ _ _ _ _ _ _ _ _ _ _ _ _ _ (by first | rfl | trivial) hb4.out
  · repeat (first | refine wpCan_move rfl ?_ | (refine wpCan_cons rfl ?_; intro K hK; go_simp; refine hK _ _ _ ?_; clear hK K))
    refine wpCan_nil ?_
    go_wp2_with fail
    exact hyes.out _ _ _ _ _ _ _ _ _ _ _ _ _ _ _ _ _ _ _ _ _ _ _ _ _ _ _ _ _ _ _ _ _ _ _ _ _ _ _ _ _ _ _ _ (by first | rfl | trivial) hb4.out

set_option maxHeartbeats 8000000 in
set_option maxRecDepth 100000 in
theorem em_search (l : List Em.R) (L : List Nat) (b o c g c1 k : Nat) (w3 : World) (hk : k < l.length) (hLl : L.length = l.length) (hlen : l.length ≤ 1000000) (hR : RunsAt l b o w3) (hF : LeftAt L g w3)
    (s1 s2 s4 s5 s6 s9 s10 s11 s12 s13 s14 s15 s16 s17 s18 s19 s20 s21 s22 s23 s24 s25 s26 s27 s28 s29 s30 s31 s32 s33 s34 s35 s36 s37 s38 s39 s40 s41 s42 s43 s44 s45 s46 s47 s48 s49 s50 s51 s52 s53 s54 s55 s56 s57 s58 s59 s60 s61 s62 s63 s64 s65 s66 s67 s68 s69 s70 s71 s72 s73 s74 s75 s76 s77 s78 s79 s80 s81 s82 s83 s84 s85 s86 s87 s88 s89 s90 s91 s92 s93 s94 s95 s96 s97 s98 s99 s100 s101 s102 s103 s104 s105 s106 s107 s108 s109 s110 s111 s112 s113 s114 s115 s116 s117 s118 s119 s120 s121 s122 s123 s124 s125 s126 s127 s128 s129 s130 s131 s132 s133 s134 s135 s136 : Value) (Q0 : Exit → Act → World → Prop) (hpan : ∀ c a d v w, Q0 (.panic c) (Act.put a d v) w → Q0 (.panic c) a w)
    (hexit : ∀ (u43 u44 u45 u46 u47 u48 u49 u50 u51 u52 u53 u54 u55 u56 u57 u58 u59 u60 u61 u62 u63 u64 u65 u66 u67 u68 u69 u70 u71 u72 u73 u74 u75 u76 u77 u78 u79 u80 u81 u82 u83 u84 u85 : Value) (z : Int) (wq : World), Below w3.heap.size w3 wq → Found l L k z → Q0 (.exit 6) ⟨(.slice (some ⟨b, o, none⟩) l.length c :: s1 :: s2 :: .slice (some ⟨g, 0, none⟩) l.length c1 :: s4 :: s5 :: s6 :: .int .i64 (k : Int) :: .int .i64 z :: s9 :: s10 :: s11 :: s12 :: s13 :: s14 :: s15 :: s16 :: s17 :: s18 :: s19 :: s20 :: s21 :: s22 :: s23 :: s24 :: s25 :: s26 :: s27 :: s28 :: s29 :: s30 :: s31 :: s32 :: s33 :: s34 :: s35 :: s36 :: s37 :: s38 :: s39 :: s40 :: s41 :: s42 :: u43 :: u44 :: u45 :: u46 :: u47 :: u48 :: u49 :: u50 :: u51 :: u52 :: u53 :: u54 :: u55 :: u56 :: u57 :: u58 :: u59 :: u60 :: u61 :: u62 :: u63 :: u64 :: u65 :: u66 :: u67 :: u68 :: u69 :: u70 :: u71 :: u72 :: u73 :: u74 :: u75 :: u76 :: u77 :: u78 :: u79 :: u80 :: u81 :: u82 :: u83 :: u84 :: u85 :: s86 :: s87 :: s88 :: s89 :: s90 :: s91 :: s92 :: s93 :: s94 :: s95 :: s96 :: s97 :: s98 :: s99 :: s100 :: s101 :: s102 :: s103 :: s104 :: s105 :: s106 :: s107 :: s108 :: s109 :: s110 :: s111 :: s112 :: s113 :: s114 :: s115 :: s116 :: s117 :: s118 :: s119 :: s120 :: s121 :: s122 :: s123 :: s124 :: s125 :: s126 :: s127 :: s128 :: s129 :: s130 :: s131 :: s132 :: s133 :: s134 :: s135 :: s136 :: []).toArray, []⟩ wq) :
    Code.wp Tryd.prog (Code.loop (loopBody Tryd.f15 3)) Q0 ⟨(.slice (some ⟨b, o, none⟩) l.length c :: s1 :: s2 :: .slice (some ⟨g, 0, none⟩) l.length c1 :: s4 :: s5 :: s6 :: .int .i64 (k : Int) :: .int .i64 ((k : Int) - 1) :: s9 :: s10 :: s11 :: s12 :: s13 :: s14 :: s15 :: s16 :: s17 :: s18 :: s19 :: s20 :: s21 :: s22 :: s23 :: s24 :: s25 :: s26 :: s27 :: s28 :: s29 :: s30 :: s31 :: s32 :: s33 :: s34 :: s35 :: s36 :: s37 :: s38 :: s39 :: s40 :: s41 :: s42 :: s43 :: s44 :: s45 :: s46 :: s47 :: s48 :: s49 :: s50 :: s51 :: s52 :: s53 :: s54 :: s55 :: s56 :: s57 :: s58 :: s59 :: s60 :: s61 :: s62 :: s63 :: s64 :: s65 :: s66 :: s67 :: s68 :: s69 :: s70 :: s71 :: s72 :: s73 :: s74 :: s75 :: s76 :: s77 :: s78 :: s79 :: s80 :: s81 :: s82 :: s83 :: s84 :: s85 :: s86 :: s87 :: s88 :: s89 :: s90 :: s91 :: s92 :: s93 :: s94 :: s95 :: s96 :: s97 :: s98 :: s99 :: s100 :: s101 :: s102 :: s103 :: s104 :: s105 :: s106 :: s107 :: s108 :: s109 :: s110 :: s111 :: s112 :: s113 :: s114 :: s115 :: s116 :: s117 :: s118 :: s119 :: s120 :: s121 :: s122 :: s123 :: s124 :: s125 :: s126 :: s127 :: s128 :: s129 :: s130 :: s131 :: s132 :: s133 :: s134 :: s135 :: s136 :: []).toArray, []⟩ w3 := by
  replace hR := Lib.hid hR
  replace hF := Lib.hid hF
  replace hexit := Lib.hid hexit
  replace hpan := Lib.hid hpan
  conv => arg 2; arg 1; whnf
  go_loopw [8] (fun v wq => SeekAt l L k w3 v wq) (fun v _ => (intOf v + 1).toNat)
  case atStart => exact ⟨(k : Int) - 1, k, rfl, by omega, Nat.le_refl _, Lib.hid rfl, Lib.hid (Below.refl _ _)⟩
  case round =>
    obtain ⟨z, j, rfl, hz, hj, hop, hq⟩ := hrel
    rcases Nat.eq_zero_or_pos j with rfl | hjp
    · have hzn : z = -1 := by omega
      subst hzn
      have hst : Hid (Found l L k (-1)) := Lib.hid (.inl ⟨rfl, by rw [hop.out]; rfl⟩)
      have hq2 := Lib.hid (below_drewN hq.out)
      clear hop hz
      go_wp2_with fail
      go_quiet (fail)
      go_wp2_with fail
      exact hexit.out _ _ _ _ _ _ _ _ _ _ _ _ _ _ _ _ _ _ _ _ _ _ _ _ _ _ _ _ _ _ _ _ _ _ _ _ _ _ _ _ _ _ _ _ _ (hq2.out nq) hst.out
    · obtain ⟨i, rfl⟩ : ∃ i, j = i + 1 := ⟨j - 1, by omega⟩
      have hzi : z = (i : Int) := by omega
      subst hzi
      have hil : i < l.length := by omega
      have hiL : i < L.length := by omega
      have hkL : k < L.length := by omega
      have hRr := hR.out.ext hq.out
      have hFr := hF.out.ext hq.out
      obtain ⟨x0, x1, x2, x3⟩ := hRr.2 i hil
      obtain ⟨y0, y1, y2, y3⟩ := hRr.2 k hk
      have v0 := hFr.2 i hiL
      have hbw2 : b < wr.heap.size := hRr.1
      have hgw2 : g < wr.heap.size := hFr.1
      replace hRr := Lib.hid hRr
      replace hFr := Lib.hid hFr
      have hgk : Em.get l k = l[k] := Em.get_at hk
      have hgi : Em.get l i = l[i] := Em.get_at hil
      have hlfi : Em.lf L i = L[i] := Em.lf_at hiL
      have hokd : Em.ok l L i k = (l[i].o && l[i].ch == l[k].ch && decide (0 < L[i]) && Em.fits l[i] l[k]) := by unfold Em.ok; rw [hgi, hgk, hlfi]
      have hnext : Hid (∀ n, Em.ok l L i k = false → SeekAt l L k w3 (.int .i64 ((i : Int) - 1)) (wr.drewN n)) :=
        Lib.hid fun n h => ⟨(i : Int) - 1, i, rfl, by omega, by omega, Lib.hid (by rw [hop.out, Em.opener_no h]), Lib.hid (below_drewN hq.out n)⟩
      cases hro : l[i].o with
      | false =>
        rw [hro] at x2
        have hno : Hid (Em.ok l L i k = false) := Lib.hid (by rw [hokd, hro]; rfl)
        clear hokd hgi hgk hlfi hop hexit x0 x1 x3 y0 y1 y2 y3 v0
        go_wp2_with fail
        go_quiet (fail)
        go_wp2_with fail
        go_roundw
        case rel => exact hnext.out nq hno.out
        case measure => simp [intOf] <;> omega
      | true =>
        rw [hro] at x2
        by_cases hch : l[i].ch = l[k].ch
        · have ht : ((l[i].ch.toNat : Int) == (l[k].ch.toNat : Int)) = true := byte_same hch
          rcases Nat.eq_zero_or_pos L[i] with hl0 | hl0
          · rw [hl0] at v0
            have hno : Hid (Em.ok l L i k = false) := Lib.hid (by rw [hokd, hl0]; simp)
            clear hokd hgi hgk hlfi hch hop hexit x1 x3 y1 y2 y3
            go_wp2_with fail
            go_quiet (fail)
            go_wp2_with fail
            go_roundw
            case rel => exact hnext.out nq hno.out
            case measure => simp [intOf] <;> omega
          · have hlp : (0 : Int) < (L[i] : Int) := by omega
            have hokf : Hid (Em.ok l L i k = Em.fits l[i] l[k]) := Lib.hid (by rw [hokd, hro, hch]; simp [hl0])
            clear x0 x1 x2 x3 y0 y1 y2 y3 v0 hokd hgi hgk hlfi hz
            refine em_fits l L b o c g c1 k i wr hk hil (by omega) hiL hlen hRr.out hFr.out hro ht hlp _ _ _ _ _ _ _ _ _ _ _ _ _ _ _ _ _ _ _ _ _ _ _ _ _ _ _ _ _ _ _ _ _ _ _ _ _ _ _ _ _ _ _ _ _ _ _ _ _ _ _ _ _ _ _ _ _ _ _ _ _ _ _ _ _ _ _ _ _ _ _ _ _ _ _ _ _ _ _ _ _ _ _ _ _ _ _ _ _ _ _ _ _ _ _ _ _ _ _ _ _ _ _ _ _ _ _ _ _ _ _ _ _ _ _ _ _ _ _ _ _ _ _ _ _ _ _ _ _ _ _ _ _ _ (fun _ _ _ _ _ h => hpan.out _ _ _ _ _ h) (fun u43 u44 u45 u46 u47 u48 u49 u50 u51 u52 u53 u54 u55 u56 u57 u58 u59 u60 u61 u62 u63 u64 u65 u66 u67 u68 u69 u70 u71 u72 u73 u74 u75 u76 u77 u78 u79 u80 u81 u82 u83 u84 u85 wq hf hw => ?_) (fun u43 u44 u45 u46 u47 u48 u49 u50 u51 u52 u53 u54 u55 u56 u57 u58 u59 u60 u61 u62 u63 u64 u65 u66 u67 u68 u69 u70 u71 u72 u73 u74 u75 u76 u77 u78 u79 u80 u81 u82 u83 u84 u85 wq hf hw => ?_)
            · have hno : Hid (Em.ok l L i k = false) := Lib.hid (by rw [hokf.out, hf])
              replace hw := Lib.hid (show Below w3.heap.size w3 wq from ext_trans hq.out hw)
              refine ⟨⟨_, _, _, _, _, _, _, _, _, _, _, _, _, _, _, _, _, _, _, _, _, _, _, _, _, _, _, _, _, _, _, _, _, _, _, _, _, _, _, _, _, _, _, _, ?rel, rfl⟩, ?measure⟩
              case rel => exact ⟨(i : Int) - 1, i, rfl, by omega, by omega, Lib.hid (by rw [hop.out, Em.opener_no hno.out]), hw⟩
              case measure => simp [intOf] <;> omega
            · exact hexit.out _ _ _ _ _ _ _ _ _ _ _ _ _ _ _ _ _ _ _ _ _ _ _ _ _ _ _ _ _ _ _ _ _ _ _ _ _ _ _ _ _ _ _ _ _ (ext_trans hq.out hw) (.inr ⟨i, rfl, by omega, by rw [hop.out, Em.opener_yes (by rw [hokf.out, hf])]⟩)
        · have ht : ((l[i].ch.toNat : Int) == (l[k].ch.toNat : Int)) = false := byte_diff hch
          have hno : Hid (Em.ok l L i k = false) := Lib.hid (by
            rw [hokd, hro]
            have : (l[i].ch == l[k].ch) = false := by simpa using hch
            rw [this]; rfl)
          clear hokd hgi hgk hlfi hch hop hexit x1 x3 y1 y2 y3 v0
          go_wp2_with fail
          go_quiet (fail)
          go_wp2_with fail
          go_roundw
          case rel => exact hnext.out nq hno.out
          case measure => simp [intOf] <;> omega

end Go.Proofs.YtboeaofcioolnaaDoor
