/- The document's own pairs of runs: two have fewer left. -/
import Derived.Test.YtboeaofcioolnaaDoorEmWipe
import Derived.Test.YtboeaofcioolnaaDoorCanon2
namespace Go.Proofs.YtboeaofcioolnaaDoor
open Go.RowKit
attribute [local go_sem] canOp readsAs readUpon

set_option maxHeartbeats 4000000 in
set_option maxRecDepth 100000 in
theorem em_stores1 (w7 : World) (n g c1 k i li lk : Nat) (hin : i < n) (hkn : k < n) (hlk1 : lk ≤ 100) (hli1 : li ≤ 100) (hli : w7.cell? ⟨g, i, none⟩ = some (.int .i64 (li : Int))) (hlk : w7.cell? ⟨g, k, none⟩ = some (.int .i64 (lk : Int)))
    (fz1 : w7.frozen? ⟨g, i, none⟩ = false) (fz2 : w7.frozen? ⟨g, k, none⟩ = false) (hne : i ≠ k) (hl2 : 1 ≤ li) (hk2 : 1 ≤ lk)
    (s0 s1 s2 s4 s5 s6 s10 s11 s12 s13 s14 s15 s16 s17 s18 s19 s20 s21 s22 s23 s24 s25 s26 s27 s28 s29 s30 s31 s32 s33 s34 s35 s36 s37 s38 s39 s40 s41 s42 s43 s44 s45 s46 s47 s48 s49 s50 s51 s52 s53 s54 s55 s56 s57 s58 s59 s60 s61 s62 s63 s64 s65 s66 s67 s68 s69 s70 s71 s72 s73 s74 s75 s76 s77 s78 s79 s80 s81 s82 s83 s84 s85 s86 s87 s88 s89 s90 s91 s92 s93 s94 s95 s96 s97 s98 s99 s100 s101 s102 s103 s104 s105 s106 s107 s108 s109 s110 s111 s112 s113 s114 s115 s116 s117 s118 s119 s120 s121 s122 s123 s124 s125 s126 s127 s128 s129 s130 s131 s132 s133 s134 s135 s136 : Value) (Q : Exit → Act → World → Prop) (hpan : ∀ c a d v w, Q (.panic c) (Act.put a d v) w → Q (.panic c) a w)
    (hk : ∀ (v107 v108 v109 v110 v111 v112 v113 v114 v115 v116 v117 v118 v119 v120 v121 v122 v123 v124 : Value) (wq : World), wq = ((w7.setCell ⟨g, i, none⟩ (.int .i64 ((li : Int) - 1))).setCell ⟨g, k, none⟩ (.int .i64 ((lk : Int) - 1))).drew → Q .normal ⟨(s0 :: s1 :: s2 :: .slice (some ⟨g, 0, none⟩) n c1 :: s4 :: s5 :: s6 :: .int .i64 (k : Int) :: .int .i64 (i : Int) :: .int .i64 1 :: s10 :: s11 :: s12 :: s13 :: s14 :: s15 :: s16 :: s17 :: s18 :: s19 :: s20 :: s21 :: s22 :: s23 :: s24 :: s25 :: s26 :: s27 :: s28 :: s29 :: s30 :: s31 :: s32 :: s33 :: s34 :: s35 :: s36 :: s37 :: s38 :: s39 :: s40 :: s41 :: s42 :: s43 :: s44 :: s45 :: s46 :: s47 :: s48 :: s49 :: s50 :: s51 :: s52 :: s53 :: s54 :: s55 :: s56 :: s57 :: s58 :: s59 :: s60 :: s61 :: s62 :: s63 :: s64 :: s65 :: s66 :: s67 :: s68 :: s69 :: s70 :: s71 :: s72 :: s73 :: s74 :: s75 :: s76 :: s77 :: s78 :: s79 :: s80 :: s81 :: s82 :: s83 :: s84 :: s85 :: s86 :: s87 :: s88 :: s89 :: s90 :: s91 :: s92 :: s93 :: s94 :: s95 :: s96 :: s97 :: s98 :: s99 :: s100 :: s101 :: s102 :: s103 :: s104 :: s105 :: s106 :: v107 :: v108 :: v109 :: v110 :: v111 :: v112 :: v113 :: v114 :: v115 :: v116 :: v117 :: v118 :: v119 :: v120 :: v121 :: v122 :: v123 :: v124 :: s125 :: s126 :: s127 :: s128 :: s129 :: s130 :: s131 :: s132 :: s133 :: s134 :: s135 :: s136 :: []).toArray, []⟩ wq) :
    Code.wp Tryd.prog (regionAt Tryd.f15 20) Q ⟨(s0 :: s1 :: s2 :: .slice (some ⟨g, 0, none⟩) n c1 :: s4 :: s5 :: s6 :: .int .i64 (k : Int) :: .int .i64 (i : Int) :: .int .i64 1 :: s10 :: s11 :: s12 :: s13 :: s14 :: s15 :: s16 :: s17 :: s18 :: s19 :: s20 :: s21 :: s22 :: s23 :: s24 :: s25 :: s26 :: s27 :: s28 :: s29 :: s30 :: s31 :: s32 :: s33 :: s34 :: s35 :: s36 :: s37 :: s38 :: s39 :: s40 :: s41 :: s42 :: s43 :: s44 :: s45 :: s46 :: s47 :: s48 :: s49 :: s50 :: s51 :: s52 :: s53 :: s54 :: s55 :: s56 :: s57 :: s58 :: s59 :: s60 :: s61 :: s62 :: s63 :: s64 :: s65 :: s66 :: s67 :: s68 :: s69 :: s70 :: s71 :: s72 :: s73 :: s74 :: s75 :: s76 :: s77 :: s78 :: s79 :: s80 :: s81 :: s82 :: s83 :: s84 :: s85 :: s86 :: s87 :: s88 :: s89 :: s90 :: s91 :: s92 :: s93 :: s94 :: s95 :: s96 :: s97 :: s98 :: s99 :: s100 :: s101 :: s102 :: s103 :: s104 :: s105 :: s106 :: s107 :: s108 :: s109 :: s110 :: s111 :: s112 :: s113 :: s114 :: s115 :: s116 :: s117 :: s118 :: s119 :: s120 :: s121 :: s122 :: s123 :: s124 :: s125 :: s126 :: s127 :: s128 :: s129 :: s130 :: s131 :: s132 :: s133 :: s134 :: s135 :: s136 :: []).toArray, []⟩ w7 := by
  have hwr1 : IntKind.i64.wrap ((li : Int) - 1) = (li : Int) - 1 := by rw [IntKind.wrap_i64]; omega
  have hwr2 : IntKind.i64.wrap ((lk : Int) - 1) = (lk : Int) - 1 := by rw [IntKind.wrap_i64]; omega
  have hlk' : (w7.setCell ⟨g, i, none⟩ (.int .i64 ((li : Int) - 1))).cell? ⟨g, k, none⟩ = some (.int .i64 (lk : Int)) := by
    rw [World.cell?_setCell_other w7 ⟨g, i, none⟩ ⟨g, k, none⟩ _ (by intro h; injection h with _ h2 _; exact hne h2)]; exact hlk
  replace hk := Lib.hid hk
  replace hpan := Lib.hid hpan
  conv => arg 2; whnf
  refine wp_region_tree (.rd 0 (.rd 1 (.rd 2 (.rd 3 (.rd 4 (.rd 5 (.rd 6 (.rd 8 (.rd 10 (.rd 11 (.rd 12 (.rd 14 (.fk 7 (.rd 9 (.mk 13 (.rd 15 (.rd 16 (.mk 17 (.rd 18 (.mk 19 .fin))))))) 13 (.rd 15 (.mk 7 (.rd 9 (.rd 16 (.mk 17 (.rd 18 (.mk 19 .fin)))))))))))))))))))) (fun _ => True) trivial (by kernel_rfl) (by kernel_rfl) (by kernel_rfl) (fun _ _ _ _ _ h => hpan.out _ _ _ _ _ h) ?_
  (repeat (first | refine wpT_move rfl ?_ | (refine wpT_rd rfl ?_; intro K hK; go_simp; refine hK _ _ _ ?_; clear hK K)))
  refine wpT_fk ?wa ?wb
  case' wa =>
    (refine wpT_mk rfl ?_; intro K hK; go_simp; refine ⟨fun _ => True, trivial, hK _ _ _ ?_⟩; clear hK K)
    (repeat (first | refine wpT_move rfl ?_ | (refine wpT_rd rfl ?_; intro K hK; go_simp; refine hK _ _ _ ?_; clear hK K)))
    (refine wpT_mk rfl ?_; intro K hK; go_simp; refine ⟨fun _ => True, trivial, hK _ _ _ ?_⟩; clear hK K)
    (repeat (first | refine wpT_move rfl ?_ | (refine wpT_rd rfl ?_; intro K hK; go_simp; refine hK _ _ _ ?_; clear hK K)))
    (refine wpT_mk rfl ?_; intro K hK; go_simp; refine ⟨fun _ => True, trivial, hK _ _ _ ?_⟩; clear hK K)
    (repeat (first | refine wpT_move rfl ?_ | (refine wpT_rd rfl ?_; intro K hK; go_simp; refine hK _ _ _ ?_; clear hK K)))
    (refine wpT_mk rfl ?_; intro K hK; go_simp; refine ⟨fun _ => True, trivial, hK _ _ _ ?_⟩; clear hK K)
    refine wpT_fin ?_
    exact hk.out _ _ _ _ _ _ _ _ _ _ _ _ _ _ _ _ _ _ _ rfl
  case' wb =>
    (refine wpT_mk rfl ?_; intro K hK; go_simp; refine ⟨fun _ => True, trivial, hK _ _ _ ?_⟩; clear hK K)
    (repeat (first | refine wpT_move rfl ?_ | (refine wpT_rd rfl ?_; intro K hK; go_simp; refine hK _ _ _ ?_; clear hK K)))
    (refine wpT_mk rfl ?_; intro K hK; go_simp; refine ⟨fun _ => True, trivial, hK _ _ _ ?_⟩; clear hK K)
    (repeat (first | refine wpT_move rfl ?_ | (refine wpT_rd rfl ?_; intro K hK; go_simp; refine hK _ _ _ ?_; clear hK K)))
    (refine wpT_mk rfl ?_; intro K hK; go_simp; refine ⟨fun _ => True, trivial, hK _ _ _ ?_⟩; clear hK K)
    (repeat (first | refine wpT_move rfl ?_ | (refine wpT_rd rfl ?_; intro K hK; go_simp; refine hK _ _ _ ?_; clear hK K)))
    (refine wpT_mk rfl ?_; intro K hK; go_simp; refine ⟨fun _ => True, trivial, hK _ _ _ ?_⟩; clear hK K)
    refine wpT_fin ?_
    exact hk.out _ _ _ _ _ _ _ _ _ _ _ _ _ _ _ _ _ _ _ rfl

set_option maxHeartbeats 4000000 in
set_option maxRecDepth 100000 in
theorem em_stores2 (w7 : World) (n g c1 k i li lk : Nat) (hin : i < n) (hkn : k < n) (hlk1 : lk ≤ 100) (hli1 : li ≤ 100) (hli : w7.cell? ⟨g, i, none⟩ = some (.int .i64 (li : Int))) (hlk : w7.cell? ⟨g, k, none⟩ = some (.int .i64 (lk : Int)))
    (fz1 : w7.frozen? ⟨g, i, none⟩ = false) (fz2 : w7.frozen? ⟨g, k, none⟩ = false) (hne : i ≠ k) (hl2 : 2 ≤ li) (hk2 : 2 ≤ lk)
    (s0 s1 s2 s4 s5 s6 s10 s11 s12 s13 s14 s15 s16 s17 s18 s19 s20 s21 s22 s23 s24 s25 s26 s27 s28 s29 s30 s31 s32 s33 s34 s35 s36 s37 s38 s39 s40 s41 s42 s43 s44 s45 s46 s47 s48 s49 s50 s51 s52 s53 s54 s55 s56 s57 s58 s59 s60 s61 s62 s63 s64 s65 s66 s67 s68 s69 s70 s71 s72 s73 s74 s75 s76 s77 s78 s79 s80 s81 s82 s83 s84 s85 s86 s87 s88 s89 s90 s91 s92 s93 s94 s95 s96 s97 s98 s99 s100 s101 s102 s103 s104 s105 s106 s107 s108 s109 s110 s111 s112 s113 s114 s115 s116 s117 s118 s119 s120 s121 s122 s123 s124 s125 s126 s127 s128 s129 s130 s131 s132 s133 s134 s135 s136 : Value) (Q : Exit → Act → World → Prop) (hpan : ∀ c a d v w, Q (.panic c) (Act.put a d v) w → Q (.panic c) a w)
    (hk : ∀ (v107 v108 v109 v110 v111 v112 v113 v114 v115 v116 v117 v118 v119 v120 v121 v122 v123 v124 : Value) (wq : World), wq = ((w7.setCell ⟨g, i, none⟩ (.int .i64 ((li : Int) - 2))).setCell ⟨g, k, none⟩ (.int .i64 ((lk : Int) - 2))).drew → Q .normal ⟨(s0 :: s1 :: s2 :: .slice (some ⟨g, 0, none⟩) n c1 :: s4 :: s5 :: s6 :: .int .i64 (k : Int) :: .int .i64 (i : Int) :: .int .i64 2 :: s10 :: s11 :: s12 :: s13 :: s14 :: s15 :: s16 :: s17 :: s18 :: s19 :: s20 :: s21 :: s22 :: s23 :: s24 :: s25 :: s26 :: s27 :: s28 :: s29 :: s30 :: s31 :: s32 :: s33 :: s34 :: s35 :: s36 :: s37 :: s38 :: s39 :: s40 :: s41 :: s42 :: s43 :: s44 :: s45 :: s46 :: s47 :: s48 :: s49 :: s50 :: s51 :: s52 :: s53 :: s54 :: s55 :: s56 :: s57 :: s58 :: s59 :: s60 :: s61 :: s62 :: s63 :: s64 :: s65 :: s66 :: s67 :: s68 :: s69 :: s70 :: s71 :: s72 :: s73 :: s74 :: s75 :: s76 :: s77 :: s78 :: s79 :: s80 :: s81 :: s82 :: s83 :: s84 :: s85 :: s86 :: s87 :: s88 :: s89 :: s90 :: s91 :: s92 :: s93 :: s94 :: s95 :: s96 :: s97 :: s98 :: s99 :: s100 :: s101 :: s102 :: s103 :: s104 :: s105 :: s106 :: v107 :: v108 :: v109 :: v110 :: v111 :: v112 :: v113 :: v114 :: v115 :: v116 :: v117 :: v118 :: v119 :: v120 :: v121 :: v122 :: v123 :: v124 :: s125 :: s126 :: s127 :: s128 :: s129 :: s130 :: s131 :: s132 :: s133 :: s134 :: s135 :: s136 :: []).toArray, []⟩ wq) :
    Code.wp Tryd.prog (regionAt Tryd.f15 20) Q ⟨(s0 :: s1 :: s2 :: .slice (some ⟨g, 0, none⟩) n c1 :: s4 :: s5 :: s6 :: .int .i64 (k : Int) :: .int .i64 (i : Int) :: .int .i64 2 :: s10 :: s11 :: s12 :: s13 :: s14 :: s15 :: s16 :: s17 :: s18 :: s19 :: s20 :: s21 :: s22 :: s23 :: s24 :: s25 :: s26 :: s27 :: s28 :: s29 :: s30 :: s31 :: s32 :: s33 :: s34 :: s35 :: s36 :: s37 :: s38 :: s39 :: s40 :: s41 :: s42 :: s43 :: s44 :: s45 :: s46 :: s47 :: s48 :: s49 :: s50 :: s51 :: s52 :: s53 :: s54 :: s55 :: s56 :: s57 :: s58 :: s59 :: s60 :: s61 :: s62 :: s63 :: s64 :: s65 :: s66 :: s67 :: s68 :: s69 :: s70 :: s71 :: s72 :: s73 :: s74 :: s75 :: s76 :: s77 :: s78 :: s79 :: s80 :: s81 :: s82 :: s83 :: s84 :: s85 :: s86 :: s87 :: s88 :: s89 :: s90 :: s91 :: s92 :: s93 :: s94 :: s95 :: s96 :: s97 :: s98 :: s99 :: s100 :: s101 :: s102 :: s103 :: s104 :: s105 :: s106 :: s107 :: s108 :: s109 :: s110 :: s111 :: s112 :: s113 :: s114 :: s115 :: s116 :: s117 :: s118 :: s119 :: s120 :: s121 :: s122 :: s123 :: s124 :: s125 :: s126 :: s127 :: s128 :: s129 :: s130 :: s131 :: s132 :: s133 :: s134 :: s135 :: s136 :: []).toArray, []⟩ w7 := by
  have hwr1 : IntKind.i64.wrap ((li : Int) - 2) = (li : Int) - 2 := by rw [IntKind.wrap_i64]; omega
  have hwr2 : IntKind.i64.wrap ((lk : Int) - 2) = (lk : Int) - 2 := by rw [IntKind.wrap_i64]; omega
  have hlk' : (w7.setCell ⟨g, i, none⟩ (.int .i64 ((li : Int) - 2))).cell? ⟨g, k, none⟩ = some (.int .i64 (lk : Int)) := by
    rw [World.cell?_setCell_other w7 ⟨g, i, none⟩ ⟨g, k, none⟩ _ (by intro h; injection h with _ h2 _; exact hne h2)]; exact hlk
  replace hk := Lib.hid hk
  replace hpan := Lib.hid hpan
  conv => arg 2; whnf
  refine wp_region_tree (.rd 0 (.rd 1 (.rd 2 (.rd 3 (.rd 4 (.rd 5 (.rd 6 (.rd 8 (.rd 10 (.rd 11 (.rd 12 (.rd 14 (.fk 7 (.rd 9 (.mk 13 (.rd 15 (.rd 16 (.mk 17 (.rd 18 (.mk 19 .fin))))))) 13 (.rd 15 (.mk 7 (.rd 9 (.rd 16 (.mk 17 (.rd 18 (.mk 19 .fin)))))))))))))))))))) (fun _ => True) trivial (by kernel_rfl) (by kernel_rfl) (by kernel_rfl) (fun _ _ _ _ _ h => hpan.out _ _ _ _ _ h) ?_
  (repeat (first | refine wpT_move rfl ?_ | (refine wpT_rd rfl ?_; intro K hK; go_simp; refine hK _ _ _ ?_; clear hK K)))
  refine wpT_fk ?wa ?wb
  case' wa =>
    (refine wpT_mk rfl ?_; intro K hK; go_simp; refine ⟨fun _ => True, trivial, hK _ _ _ ?_⟩; clear hK K)
    (repeat (first | refine wpT_move rfl ?_ | (refine wpT_rd rfl ?_; intro K hK; go_simp; refine hK _ _ _ ?_; clear hK K)))
    (refine wpT_mk rfl ?_; intro K hK; go_simp; refine ⟨fun _ => True, trivial, hK _ _ _ ?_⟩; clear hK K)
    (repeat (first | refine wpT_move rfl ?_ | (refine wpT_rd rfl ?_; intro K hK; go_simp; refine hK _ _ _ ?_; clear hK K)))
    (refine wpT_mk rfl ?_; intro K hK; go_simp; refine ⟨fun _ => True, trivial, hK _ _ _ ?_⟩; clear hK K)
    (repeat (first | refine wpT_move rfl ?_ | (refine wpT_rd rfl ?_; intro K hK; go_simp; refine hK _ _ _ ?_; clear hK K)))
    (refine wpT_mk rfl ?_; intro K hK; go_simp; refine ⟨fun _ => True, trivial, hK _ _ _ ?_⟩; clear hK K)
    refine wpT_fin ?_
    exact hk.out _ _ _ _ _ _ _ _ _ _ _ _ _ _ _ _ _ _ _ rfl
  case' wb =>
    (refine wpT_mk rfl ?_; intro K hK; go_simp; refine ⟨fun _ => True, trivial, hK _ _ _ ?_⟩; clear hK K)
    (repeat (first | refine wpT_move rfl ?_ | (refine wpT_rd rfl ?_; intro K hK; go_simp; refine hK _ _ _ ?_; clear hK K)))
    (refine wpT_mk rfl ?_; intro K hK; go_simp; refine ⟨fun _ => True, trivial, hK _ _ _ ?_⟩; clear hK K)
    (repeat (first | refine wpT_move rfl ?_ | (refine wpT_rd rfl ?_; intro K hK; go_simp; refine hK _ _ _ ?_; clear hK K)))
    (refine wpT_mk rfl ?_; intro K hK; go_simp; refine ⟨fun _ => True, trivial, hK _ _ _ ?_⟩; clear hK K)
    (repeat (first | refine wpT_move rfl ?_ | (refine wpT_rd rfl ?_; intro K hK; go_simp; refine hK _ _ _ ?_; clear hK K)))
    (refine wpT_mk rfl ?_; intro K hK; go_simp; refine ⟨fun _ => True, trivial, hK _ _ _ ?_⟩; clear hK K)
    refine wpT_fin ?_
    exact hk.out _ _ _ _ _ _ _ _ _ _ _ _ _ _ _ _ _ _ _ rfl

end Go.Proofs.YtboeaofcioolnaaDoor
