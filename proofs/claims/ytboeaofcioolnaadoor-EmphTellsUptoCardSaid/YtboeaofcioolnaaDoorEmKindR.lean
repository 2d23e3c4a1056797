/- The document's own judging of a run: region by region. -/
import Derived.Test.YtboeaofcioolnaaDoorEmKindL
import Derived.Test.YtboeaofcioolnaaDoorRnKinds
import Derived.Test.YtboeaofcioolnaaDoorByt
namespace Go.Proofs.YtboeaofcioolnaaDoor
open Go.RowKit

set_option maxHeartbeats 2000000 in
set_option maxRecDepth 100000 in
theorem kind_left (a b : Int) (BA BB PA PB : Bool) (w4 : World) (hBA : blankB a = BA) (hBB : blankB b = BB) (hPA : punctB a = PA) (hPB : punctB b = PB)
    (s0 s1 s2 s3 s4 s5 s6 s7 s10 s11 s12 s13 s14 s15 s16 s17 s18 s19 s20 s21 s22 s23 s24 s25 s26 s27 s28 s29 s30 s31 s32 s33 s34 s35 s36 s37 s38 s39 s40 s41 s42 s43 s44 s45 s46 s47 s48 s49 s50 s51 s52 s53 s54 s55 s56 s57 s58 s59 s60 s61 s62 s63 s64 s65 s66 s67 s68 s69 s70 s71 s72 s73 s74 s75 s76 s77 s78 s79 s80 s81 s82 s83 s84 s85 s86 s87 s88 s89 s90 s91 s92 s93 s94 s95 s96 s97 s98 s99 s100 s101 s102 s103 s104 s105 s106 s107 s108 s109 s110 s111 s112 s113 s114 s115 s116 s117 s118 s119 s120 s121 s122 s123 s124 s125 s126 s127 s128 s129 s130 s131 s132 s133 s134 s135 s136 s137 s138 s139 s140 s141 s142 s143 s144 : Value) (Q : Exit → Act → World → Prop)
    (hq : ∀ (v78 v79 v80 v81 v82 v83 v84 v85 v86 v87 v88 v89 v90 v91 v92 v93 : Value) (wq : World), wq = w4 → Q .normal ⟨(s0 :: s1 :: s2 :: s3 :: s4 :: s5 :: s6 :: s7 :: .int .i32 b :: .int .i32 a :: s10 :: s11 :: .bool (!BA && (!PA || BB || PB)) :: s13 :: s14 :: s15 :: s16 :: s17 :: s18 :: s19 :: s20 :: s21 :: s22 :: s23 :: s24 :: s25 :: s26 :: s27 :: s28 :: s29 :: s30 :: s31 :: s32 :: s33 :: s34 :: s35 :: s36 :: s37 :: s38 :: s39 :: s40 :: s41 :: s42 :: s43 :: s44 :: s45 :: s46 :: s47 :: s48 :: s49 :: s50 :: s51 :: s52 :: s53 :: s54 :: s55 :: s56 :: s57 :: s58 :: s59 :: s60 :: s61 :: s62 :: s63 :: s64 :: s65 :: s66 :: s67 :: s68 :: s69 :: s70 :: s71 :: s72 :: s73 :: s74 :: s75 :: s76 :: s77 :: v78 :: v79 :: v80 :: v81 :: v82 :: v83 :: v84 :: v85 :: v86 :: v87 :: v88 :: v89 :: v90 :: v91 :: v92 :: v93 :: s94 :: s95 :: s96 :: s97 :: s98 :: s99 :: s100 :: s101 :: s102 :: s103 :: s104 :: s105 :: s106 :: s107 :: s108 :: s109 :: s110 :: s111 :: s112 :: s113 :: s114 :: s115 :: s116 :: s117 :: s118 :: s119 :: s120 :: s121 :: s122 :: s123 :: s124 :: s125 :: s126 :: s127 :: s128 :: s129 :: s130 :: s131 :: s132 :: s133 :: s134 :: s135 :: s136 :: s137 :: s138 :: s139 :: s140 :: s141 :: s142 :: s143 :: s144 :: []).toArray, []⟩ wq) :
    Code.wp Tryd.prog (regionAt Tryd.f16 11) Q ⟨(s0 :: s1 :: s2 :: s3 :: s4 :: s5 :: s6 :: s7 :: .int .i32 b :: .int .i32 a :: s10 :: s11 :: s12 :: s13 :: s14 :: s15 :: s16 :: s17 :: s18 :: s19 :: s20 :: s21 :: s22 :: s23 :: s24 :: s25 :: s26 :: s27 :: s28 :: s29 :: s30 :: s31 :: s32 :: s33 :: s34 :: s35 :: s36 :: s37 :: s38 :: s39 :: s40 :: s41 :: s42 :: s43 :: s44 :: s45 :: s46 :: s47 :: s48 :: s49 :: s50 :: s51 :: s52 :: s53 :: s54 :: s55 :: s56 :: s57 :: s58 :: s59 :: s60 :: s61 :: s62 :: s63 :: s64 :: s65 :: s66 :: s67 :: s68 :: s69 :: s70 :: s71 :: s72 :: s73 :: s74 :: s75 :: s76 :: s77 :: s78 :: s79 :: s80 :: s81 :: s82 :: s83 :: s84 :: s85 :: s86 :: s87 :: s88 :: s89 :: s90 :: s91 :: s92 :: s93 :: s94 :: s95 :: s96 :: s97 :: s98 :: s99 :: s100 :: s101 :: s102 :: s103 :: s104 :: s105 :: s106 :: s107 :: s108 :: s109 :: s110 :: s111 :: s112 :: s113 :: s114 :: s115 :: s116 :: s117 :: s118 :: s119 :: s120 :: s121 :: s122 :: s123 :: s124 :: s125 :: s126 :: s127 :: s128 :: s129 :: s130 :: s131 :: s132 :: s133 :: s134 :: s135 :: s136 :: s137 :: s138 :: s139 :: s140 :: s141 :: s142 :: s143 :: s144 :: []).toArray, []⟩ w4 := by
  replace hq := Lib.hid hq
  cases BA with
  | true =>
    conv => arg 2; whnf
    go_wp2_with (first | (go_at_call 31; refine (rblank_any _ _).mono ?_; rintro e w9 ⟨rfl, rfl⟩; first | rw [hBA] | rw [hBB]) | (go_at_call 32; refine (rpunct_any _ _).mono ?_; rintro e w9 ⟨rfl, rfl⟩; first | rw [hPA] | rw [hPB]))
    exact hq.out _ _ _ _ _ _ _ _ _ _ _ _ _ _ _ _ _ rfl
  | false =>
    cases PA with
    | false =>
      conv => arg 2; whnf
      go_wp2_with (first | (go_at_call 31; refine (rblank_any _ _).mono ?_; rintro e w9 ⟨rfl, rfl⟩; first | rw [hBA] | rw [hBB]) | (go_at_call 32; refine (rpunct_any _ _).mono ?_; rintro e w9 ⟨rfl, rfl⟩; first | rw [hPA] | rw [hPB]))
      exact hq.out _ _ _ _ _ _ _ _ _ _ _ _ _ _ _ _ _ rfl
    | true =>
      cases BB with
      | true =>
        conv => arg 2; whnf
        go_wp2_with (first | (go_at_call 31; refine (rblank_any _ _).mono ?_; rintro e w9 ⟨rfl, rfl⟩; first | rw [hBA] | rw [hBB]) | (go_at_call 32; refine (rpunct_any _ _).mono ?_; rintro e w9 ⟨rfl, rfl⟩; first | rw [hPA] | rw [hPB]))
        exact hq.out _ _ _ _ _ _ _ _ _ _ _ _ _ _ _ _ _ rfl
      | false =>
        cases PB with
        | true =>
          conv => arg 2; whnf
          go_wp2_with (first | (go_at_call 31; refine (rblank_any _ _).mono ?_; rintro e w9 ⟨rfl, rfl⟩; first | rw [hBA] | rw [hBB]) | (go_at_call 32; refine (rpunct_any _ _).mono ?_; rintro e w9 ⟨rfl, rfl⟩; first | rw [hPA] | rw [hPB]))
          exact hq.out _ _ _ _ _ _ _ _ _ _ _ _ _ _ _ _ _ rfl
        | false =>
          conv => arg 2; whnf
          go_wp2_with (first | (go_at_call 31; refine (rblank_any _ _).mono ?_; rintro e w9 ⟨rfl, rfl⟩; first | rw [hBA] | rw [hBB]) | (go_at_call 32; refine (rpunct_any _ _).mono ?_; rintro e w9 ⟨rfl, rfl⟩; first | rw [hPA] | rw [hPB]))
          exact hq.out _ _ _ _ _ _ _ _ _ _ _ _ _ _ _ _ _ rfl

set_option maxHeartbeats 2000000 in
set_option maxRecDepth 100000 in
theorem kind_right (a b : Int) (BA BB PA PB : Bool) (w4 : World) (hBA : blankB a = BA) (hBB : blankB b = BB) (hPA : punctB a = PA) (hPB : punctB b = PB)
    (s0 s1 s2 s3 s4 s5 s6 s7 s10 s11 s12 s13 s14 s15 s16 s17 s18 s19 s20 s21 s22 s23 s24 s25 s26 s27 s28 s29 s30 s31 s32 s33 s34 s35 s36 s37 s38 s39 s40 s41 s42 s43 s44 s45 s46 s47 s48 s49 s50 s51 s52 s53 s54 s55 s56 s57 s58 s59 s60 s61 s62 s63 s64 s65 s66 s67 s68 s69 s70 s71 s72 s73 s74 s75 s76 s77 s78 s79 s80 s81 s82 s83 s84 s85 s86 s87 s88 s89 s90 s91 s92 s93 s94 s95 s96 s97 s98 s99 s100 s101 s102 s103 s104 s105 s106 s107 s108 s109 s110 s111 s112 s113 s114 s115 s116 s117 s118 s119 s120 s121 s122 s123 s124 s125 s126 s127 s128 s129 s130 s131 s132 s133 s134 s135 s136 s137 s138 s139 s140 s141 s142 s143 s144 : Value) (Q : Exit → Act → World → Prop)
    (hq : ∀ (v94 v95 v96 v97 v98 v99 v100 v101 v102 v103 v104 v105 v106 v107 v108 v109 : Value) (wq : World), wq = w4 → Q .normal ⟨(s0 :: s1 :: s2 :: s3 :: s4 :: s5 :: s6 :: s7 :: .int .i32 b :: .int .i32 a :: s10 :: s11 :: s12 :: .bool (!BB && (!PB || BA || PA)) :: s14 :: s15 :: s16 :: s17 :: s18 :: s19 :: s20 :: s21 :: s22 :: s23 :: s24 :: s25 :: s26 :: s27 :: s28 :: s29 :: s30 :: s31 :: s32 :: s33 :: s34 :: s35 :: s36 :: s37 :: s38 :: s39 :: s40 :: s41 :: s42 :: s43 :: s44 :: s45 :: s46 :: s47 :: s48 :: s49 :: s50 :: s51 :: s52 :: s53 :: s54 :: s55 :: s56 :: s57 :: s58 :: s59 :: s60 :: s61 :: s62 :: s63 :: s64 :: s65 :: s66 :: s67 :: s68 :: s69 :: s70 :: s71 :: s72 :: s73 :: s74 :: s75 :: s76 :: s77 :: s78 :: s79 :: s80 :: s81 :: s82 :: s83 :: s84 :: s85 :: s86 :: s87 :: s88 :: s89 :: s90 :: s91 :: s92 :: s93 :: v94 :: v95 :: v96 :: v97 :: v98 :: v99 :: v100 :: v101 :: v102 :: v103 :: v104 :: v105 :: v106 :: v107 :: v108 :: v109 :: s110 :: s111 :: s112 :: s113 :: s114 :: s115 :: s116 :: s117 :: s118 :: s119 :: s120 :: s121 :: s122 :: s123 :: s124 :: s125 :: s126 :: s127 :: s128 :: s129 :: s130 :: s131 :: s132 :: s133 :: s134 :: s135 :: s136 :: s137 :: s138 :: s139 :: s140 :: s141 :: s142 :: s143 :: s144 :: []).toArray, []⟩ wq) :
    Code.wp Tryd.prog (regionAt Tryd.f16 12) Q ⟨(s0 :: s1 :: s2 :: s3 :: s4 :: s5 :: s6 :: s7 :: .int .i32 b :: .int .i32 a :: s10 :: s11 :: s12 :: s13 :: s14 :: s15 :: s16 :: s17 :: s18 :: s19 :: s20 :: s21 :: s22 :: s23 :: s24 :: s25 :: s26 :: s27 :: s28 :: s29 :: s30 :: s31 :: s32 :: s33 :: s34 :: s35 :: s36 :: s37 :: s38 :: s39 :: s40 :: s41 :: s42 :: s43 :: s44 :: s45 :: s46 :: s47 :: s48 :: s49 :: s50 :: s51 :: s52 :: s53 :: s54 :: s55 :: s56 :: s57 :: s58 :: s59 :: s60 :: s61 :: s62 :: s63 :: s64 :: s65 :: s66 :: s67 :: s68 :: s69 :: s70 :: s71 :: s72 :: s73 :: s74 :: s75 :: s76 :: s77 :: s78 :: s79 :: s80 :: s81 :: s82 :: s83 :: s84 :: s85 :: s86 :: s87 :: s88 :: s89 :: s90 :: s91 :: s92 :: s93 :: s94 :: s95 :: s96 :: s97 :: s98 :: s99 :: s100 :: s101 :: s102 :: s103 :: s104 :: s105 :: s106 :: s107 :: s108 :: s109 :: s110 :: s111 :: s112 :: s113 :: s114 :: s115 :: s116 :: s117 :: s118 :: s119 :: s120 :: s121 :: s122 :: s123 :: s124 :: s125 :: s126 :: s127 :: s128 :: s129 :: s130 :: s131 :: s132 :: s133 :: s134 :: s135 :: s136 :: s137 :: s138 :: s139 :: s140 :: s141 :: s142 :: s143 :: s144 :: []).toArray, []⟩ w4 := by
  replace hq := Lib.hid hq
  cases BB with
  | true =>
    conv => arg 2; whnf
    go_wp2_with (first | (go_at_call 31; refine (rblank_any _ _).mono ?_; rintro e w9 ⟨rfl, rfl⟩; first | rw [hBA] | rw [hBB]) | (go_at_call 32; refine (rpunct_any _ _).mono ?_; rintro e w9 ⟨rfl, rfl⟩; first | rw [hPA] | rw [hPB]))
    exact hq.out _ _ _ _ _ _ _ _ _ _ _ _ _ _ _ _ _ rfl
  | false =>
    cases PB with
    | false =>
      conv => arg 2; whnf
      go_wp2_with (first | (go_at_call 31; refine (rblank_any _ _).mono ?_; rintro e w9 ⟨rfl, rfl⟩; first | rw [hBA] | rw [hBB]) | (go_at_call 32; refine (rpunct_any _ _).mono ?_; rintro e w9 ⟨rfl, rfl⟩; first | rw [hPA] | rw [hPB]))
      exact hq.out _ _ _ _ _ _ _ _ _ _ _ _ _ _ _ _ _ rfl
    | true =>
      cases BA with
      | true =>
        conv => arg 2; whnf
        go_wp2_with (first | (go_at_call 31; refine (rblank_any _ _).mono ?_; rintro e w9 ⟨rfl, rfl⟩; first | rw [hBA] | rw [hBB]) | (go_at_call 32; refine (rpunct_any _ _).mono ?_; rintro e w9 ⟨rfl, rfl⟩; first | rw [hPA] | rw [hPB]))
        exact hq.out _ _ _ _ _ _ _ _ _ _ _ _ _ _ _ _ _ rfl
      | false =>
        cases PA with
        | true =>
          conv => arg 2; whnf
          go_wp2_with (first | (go_at_call 31; refine (rblank_any _ _).mono ?_; rintro e w9 ⟨rfl, rfl⟩; first | rw [hBA] | rw [hBB]) | (go_at_call 32; refine (rpunct_any _ _).mono ?_; rintro e w9 ⟨rfl, rfl⟩; first | rw [hPA] | rw [hPB]))
          exact hq.out _ _ _ _ _ _ _ _ _ _ _ _ _ _ _ _ _ rfl
        | false =>
          conv => arg 2; whnf
          go_wp2_with (first | (go_at_call 31; refine (rblank_any _ _).mono ?_; rintro e w9 ⟨rfl, rfl⟩; first | rw [hBA] | rw [hBB]) | (go_at_call 32; refine (rpunct_any _ _).mono ?_; rintro e w9 ⟨rfl, rfl⟩; first | rw [hPA] | rw [hPB]))
          exact hq.out _ _ _ _ _ _ _ _ _ _ _ _ _ _ _ _ _ rfl

set_option maxHeartbeats 2000000 in
set_option maxRecDepth 100000 in
theorem kind_made (l : List UInt8) (k n : Nat) (x y : Bool) (c : UInt8) (w4 : World) (hix : ∀ w : World, (Instr.index 9 (.string (bs l)) (.int .i64 (k : Int))).run Tryd.prog w = .ok (.int .u8 (c.toNat : Int)) w)
    (s2 s3 s4 s5 s6 s8 s9 s10 s11 s14 s15 s16 s17 s18 s19 s20 s21 s22 s23 s24 s25 s26 s27 s28 s29 s30 s31 s32 s33 s34 s35 s36 s37 s38 s39 s40 s41 s42 s43 s44 s45 s46 s47 s48 s49 s50 s51 s52 s53 s54 s55 s56 s57 s58 s59 s60 s61 s62 s63 s64 s65 s66 s67 s68 s69 s70 s71 s72 s73 s74 s75 s76 s77 s78 s79 s80 s81 s82 s83 s84 s85 s86 s87 s88 s89 s90 s91 s92 s93 s94 s95 s96 s97 s98 s99 s100 s101 s102 s103 s104 s105 s106 s107 s108 s109 s110 s111 s112 s113 s114 s115 s116 s117 s118 s119 s120 s121 s122 s123 s124 s125 s126 s127 s128 s129 s130 s131 s132 s133 s134 s135 s136 s137 s138 s139 s140 s141 s142 s143 s144 : Value) (Q : Exit → Act → World → Prop)
    (hq : ∀ (v110 v111 v112 v113 v114 v115 v116 : Value) (wq : World), wq = w4.alloc (.cells #[.int .u8 (c.toNat : Int), .int .i64 (n : Int), .bool x, .bool y] 47) → Q .normal ⟨(.string (bs l) :: .int .i64 (k : Int) :: s2 :: s3 :: s4 :: s5 :: s6 :: .int .i64 (n : Int) :: s8 :: s9 :: s10 :: s11 :: .bool x :: .bool y :: .pointer (some ⟨w4.heap.size, 0, none⟩) :: s15 :: s16 :: s17 :: s18 :: s19 :: s20 :: s21 :: s22 :: s23 :: s24 :: s25 :: s26 :: s27 :: s28 :: s29 :: s30 :: s31 :: s32 :: s33 :: s34 :: s35 :: s36 :: s37 :: s38 :: s39 :: s40 :: s41 :: s42 :: s43 :: s44 :: s45 :: s46 :: s47 :: s48 :: s49 :: s50 :: s51 :: s52 :: s53 :: s54 :: s55 :: s56 :: s57 :: s58 :: s59 :: s60 :: s61 :: s62 :: s63 :: s64 :: s65 :: s66 :: s67 :: s68 :: s69 :: s70 :: s71 :: s72 :: s73 :: s74 :: s75 :: s76 :: s77 :: s78 :: s79 :: s80 :: s81 :: s82 :: s83 :: s84 :: s85 :: s86 :: s87 :: s88 :: s89 :: s90 :: s91 :: s92 :: s93 :: s94 :: s95 :: s96 :: s97 :: s98 :: s99 :: s100 :: s101 :: s102 :: s103 :: s104 :: s105 :: s106 :: s107 :: s108 :: s109 :: v110 :: v111 :: v112 :: v113 :: v114 :: v115 :: v116 :: s117 :: s118 :: s119 :: s120 :: s121 :: s122 :: s123 :: s124 :: s125 :: s126 :: s127 :: s128 :: s129 :: s130 :: s131 :: s132 :: s133 :: s134 :: s135 :: s136 :: s137 :: s138 :: s139 :: s140 :: s141 :: s142 :: s143 :: s144 :: []).toArray, []⟩ wq) :
    Code.wp Tryd.prog (regionAt Tryd.f16 13) Q ⟨(.string (bs l) :: .int .i64 (k : Int) :: s2 :: s3 :: s4 :: s5 :: s6 :: .int .i64 (n : Int) :: s8 :: s9 :: s10 :: s11 :: .bool x :: .bool y :: s14 :: s15 :: s16 :: s17 :: s18 :: s19 :: s20 :: s21 :: s22 :: s23 :: s24 :: s25 :: s26 :: s27 :: s28 :: s29 :: s30 :: s31 :: s32 :: s33 :: s34 :: s35 :: s36 :: s37 :: s38 :: s39 :: s40 :: s41 :: s42 :: s43 :: s44 :: s45 :: s46 :: s47 :: s48 :: s49 :: s50 :: s51 :: s52 :: s53 :: s54 :: s55 :: s56 :: s57 :: s58 :: s59 :: s60 :: s61 :: s62 :: s63 :: s64 :: s65 :: s66 :: s67 :: s68 :: s69 :: s70 :: s71 :: s72 :: s73 :: s74 :: s75 :: s76 :: s77 :: s78 :: s79 :: s80 :: s81 :: s82 :: s83 :: s84 :: s85 :: s86 :: s87 :: s88 :: s89 :: s90 :: s91 :: s92 :: s93 :: s94 :: s95 :: s96 :: s97 :: s98 :: s99 :: s100 :: s101 :: s102 :: s103 :: s104 :: s105 :: s106 :: s107 :: s108 :: s109 :: s110 :: s111 :: s112 :: s113 :: s114 :: s115 :: s116 :: s117 :: s118 :: s119 :: s120 :: s121 :: s122 :: s123 :: s124 :: s125 :: s126 :: s127 :: s128 :: s129 :: s130 :: s131 :: s132 :: s133 :: s134 :: s135 :: s136 :: s137 :: s138 :: s139 :: s140 :: s141 :: s142 :: s143 :: s144 :: []).toArray, []⟩ w4 := by
  replace hq := Lib.hid hq
  conv => arg 2; whnf
  go_wp2_with fail
  exact hq.out _ _ _ _ _ _ _ _ rfl

set_option maxHeartbeats 2000000 in
set_option maxRecDepth 100000 in
theorem kind_opens (a b : Int) (PA PB x y : Bool) (g1 : Nat) (v9 : Bool) (w4 : World) (_hPA : punctB a = PA) (hPB : punctB b = PB) (z2 : w4.cell? ⟨g1, 2, none⟩ = some (.bool v9)) (k4 : w4.frozen? ⟨g1, 2, none⟩ = false)
    (s0 s1 s2 s3 s4 s5 s6 s7 s10 s11 s15 s16 s17 s18 s19 s20 s21 s22 s23 s24 s25 s26 s27 s28 s29 s30 s31 s32 s33 s34 s35 s36 s37 s38 s39 s40 s41 s42 s43 s44 s45 s46 s47 s48 s49 s50 s51 s52 s53 s54 s55 s56 s57 s58 s59 s60 s61 s62 s63 s64 s65 s66 s67 s68 s69 s70 s71 s72 s73 s74 s75 s76 s77 s78 s79 s80 s81 s82 s83 s84 s85 s86 s87 s88 s89 s90 s91 s92 s93 s94 s95 s96 s97 s98 s99 s100 s101 s102 s103 s104 s105 s106 s107 s108 s109 s110 s111 s112 s113 s114 s115 s116 s117 s118 s119 s120 s121 s122 s123 s124 s125 s126 s127 s128 s129 s130 s131 s132 s133 s134 s135 s136 s137 s138 s139 s140 s141 s142 s143 s144 : Value) (Q : Exit → Act → World → Prop)
    (hq : ∀ (v121 v122 v123 v124 v125 v126 v127 v128 v129 v130 : Value) (wq : World), wq = w4.setCell ⟨g1, 2, none⟩ (.bool (x && (!y || PB))) → Q .normal ⟨(s0 :: s1 :: s2 :: s3 :: s4 :: s5 :: s6 :: s7 :: .int .i32 b :: .int .i32 a :: s10 :: s11 :: .bool x :: .bool y :: .pointer (some ⟨g1, 0, none⟩) :: s15 :: s16 :: s17 :: s18 :: s19 :: s20 :: s21 :: s22 :: s23 :: s24 :: s25 :: s26 :: s27 :: s28 :: s29 :: s30 :: s31 :: s32 :: s33 :: s34 :: s35 :: s36 :: s37 :: s38 :: s39 :: s40 :: s41 :: s42 :: s43 :: s44 :: s45 :: s46 :: s47 :: s48 :: s49 :: s50 :: s51 :: s52 :: s53 :: s54 :: s55 :: s56 :: s57 :: s58 :: s59 :: s60 :: s61 :: s62 :: s63 :: s64 :: s65 :: s66 :: s67 :: s68 :: s69 :: s70 :: s71 :: s72 :: s73 :: s74 :: s75 :: s76 :: s77 :: s78 :: s79 :: s80 :: s81 :: s82 :: s83 :: s84 :: s85 :: s86 :: s87 :: s88 :: s89 :: s90 :: s91 :: s92 :: s93 :: s94 :: s95 :: s96 :: s97 :: s98 :: s99 :: s100 :: s101 :: s102 :: s103 :: s104 :: s105 :: s106 :: s107 :: s108 :: s109 :: s110 :: s111 :: s112 :: s113 :: s114 :: s115 :: s116 :: s117 :: s118 :: s119 :: s120 :: v121 :: v122 :: v123 :: v124 :: v125 :: v126 :: v127 :: v128 :: v129 :: v130 :: s131 :: s132 :: s133 :: s134 :: s135 :: s136 :: s137 :: s138 :: s139 :: s140 :: s141 :: s142 :: s143 :: s144 :: []).toArray, []⟩ wq) :
    Code.wp Tryd.prog (regionAt Tryd.f16 15) Q ⟨(s0 :: s1 :: s2 :: s3 :: s4 :: s5 :: s6 :: s7 :: .int .i32 b :: .int .i32 a :: s10 :: s11 :: .bool x :: .bool y :: .pointer (some ⟨g1, 0, none⟩) :: s15 :: s16 :: s17 :: s18 :: s19 :: s20 :: s21 :: s22 :: s23 :: s24 :: s25 :: s26 :: s27 :: s28 :: s29 :: s30 :: s31 :: s32 :: s33 :: s34 :: s35 :: s36 :: s37 :: s38 :: s39 :: s40 :: s41 :: s42 :: s43 :: s44 :: s45 :: s46 :: s47 :: s48 :: s49 :: s50 :: s51 :: s52 :: s53 :: s54 :: s55 :: s56 :: s57 :: s58 :: s59 :: s60 :: s61 :: s62 :: s63 :: s64 :: s65 :: s66 :: s67 :: s68 :: s69 :: s70 :: s71 :: s72 :: s73 :: s74 :: s75 :: s76 :: s77 :: s78 :: s79 :: s80 :: s81 :: s82 :: s83 :: s84 :: s85 :: s86 :: s87 :: s88 :: s89 :: s90 :: s91 :: s92 :: s93 :: s94 :: s95 :: s96 :: s97 :: s98 :: s99 :: s100 :: s101 :: s102 :: s103 :: s104 :: s105 :: s106 :: s107 :: s108 :: s109 :: s110 :: s111 :: s112 :: s113 :: s114 :: s115 :: s116 :: s117 :: s118 :: s119 :: s120 :: s121 :: s122 :: s123 :: s124 :: s125 :: s126 :: s127 :: s128 :: s129 :: s130 :: s131 :: s132 :: s133 :: s134 :: s135 :: s136 :: s137 :: s138 :: s139 :: s140 :: s141 :: s142 :: s143 :: s144 :: []).toArray, []⟩ w4 := by
  replace hq := Lib.hid hq
  cases x <;> cases y <;> cases PB
  all_goals
    conv => arg 2; whnf
    go_wp2_with (go_at_call 32; refine (rpunct_any _ _).mono ?_; rintro e w9 ⟨rfl, rfl⟩; rw [hPB])
    exact hq.out _ _ _ _ _ _ _ _ _ _ _ rfl

set_option maxHeartbeats 2000000 in
set_option maxRecDepth 100000 in
theorem kind_closes (a b : Int) (PA PB x y : Bool) (g1 : Nat) (v9 : Bool) (w4 : World) (hPA : punctB a = PA) (_hPB : punctB b = PB) (z2 : w4.cell? ⟨g1, 3, none⟩ = some (.bool v9)) (k4 : w4.frozen? ⟨g1, 3, none⟩ = false)
    (s0 s1 s2 s3 s4 s5 s6 s7 s10 s11 s15 s16 s17 s18 s19 s20 s21 s22 s23 s24 s25 s26 s27 s28 s29 s30 s31 s32 s33 s34 s35 s36 s37 s38 s39 s40 s41 s42 s43 s44 s45 s46 s47 s48 s49 s50 s51 s52 s53 s54 s55 s56 s57 s58 s59 s60 s61 s62 s63 s64 s65 s66 s67 s68 s69 s70 s71 s72 s73 s74 s75 s76 s77 s78 s79 s80 s81 s82 s83 s84 s85 s86 s87 s88 s89 s90 s91 s92 s93 s94 s95 s96 s97 s98 s99 s100 s101 s102 s103 s104 s105 s106 s107 s108 s109 s110 s111 s112 s113 s114 s115 s116 s117 s118 s119 s120 s121 s122 s123 s124 s125 s126 s127 s128 s129 s130 s131 s132 s133 s134 s135 s136 s137 s138 s139 s140 s141 s142 s143 s144 : Value) (Q : Exit → Act → World → Prop)
    (hq : ∀ (v131 v132 v133 v134 v135 v136 v137 v138 v139 v140 : Value) (wq : World), wq = w4.setCell ⟨g1, 3, none⟩ (.bool (y && (!x || PA))) → Q .normal ⟨(s0 :: s1 :: s2 :: s3 :: s4 :: s5 :: s6 :: s7 :: .int .i32 b :: .int .i32 a :: s10 :: s11 :: .bool x :: .bool y :: .pointer (some ⟨g1, 0, none⟩) :: s15 :: s16 :: s17 :: s18 :: s19 :: s20 :: s21 :: s22 :: s23 :: s24 :: s25 :: s26 :: s27 :: s28 :: s29 :: s30 :: s31 :: s32 :: s33 :: s34 :: s35 :: s36 :: s37 :: s38 :: s39 :: s40 :: s41 :: s42 :: s43 :: s44 :: s45 :: s46 :: s47 :: s48 :: s49 :: s50 :: s51 :: s52 :: s53 :: s54 :: s55 :: s56 :: s57 :: s58 :: s59 :: s60 :: s61 :: s62 :: s63 :: s64 :: s65 :: s66 :: s67 :: s68 :: s69 :: s70 :: s71 :: s72 :: s73 :: s74 :: s75 :: s76 :: s77 :: s78 :: s79 :: s80 :: s81 :: s82 :: s83 :: s84 :: s85 :: s86 :: s87 :: s88 :: s89 :: s90 :: s91 :: s92 :: s93 :: s94 :: s95 :: s96 :: s97 :: s98 :: s99 :: s100 :: s101 :: s102 :: s103 :: s104 :: s105 :: s106 :: s107 :: s108 :: s109 :: s110 :: s111 :: s112 :: s113 :: s114 :: s115 :: s116 :: s117 :: s118 :: s119 :: s120 :: s121 :: s122 :: s123 :: s124 :: s125 :: s126 :: s127 :: s128 :: s129 :: s130 :: v131 :: v132 :: v133 :: v134 :: v135 :: v136 :: v137 :: v138 :: v139 :: v140 :: s141 :: s142 :: s143 :: s144 :: []).toArray, []⟩ wq) :
    Code.wp Tryd.prog (regionAt Tryd.f16 16) Q ⟨(s0 :: s1 :: s2 :: s3 :: s4 :: s5 :: s6 :: s7 :: .int .i32 b :: .int .i32 a :: s10 :: s11 :: .bool x :: .bool y :: .pointer (some ⟨g1, 0, none⟩) :: s15 :: s16 :: s17 :: s18 :: s19 :: s20 :: s21 :: s22 :: s23 :: s24 :: s25 :: s26 :: s27 :: s28 :: s29 :: s30 :: s31 :: s32 :: s33 :: s34 :: s35 :: s36 :: s37 :: s38 :: s39 :: s40 :: s41 :: s42 :: s43 :: s44 :: s45 :: s46 :: s47 :: s48 :: s49 :: s50 :: s51 :: s52 :: s53 :: s54 :: s55 :: s56 :: s57 :: s58 :: s59 :: s60 :: s61 :: s62 :: s63 :: s64 :: s65 :: s66 :: s67 :: s68 :: s69 :: s70 :: s71 :: s72 :: s73 :: s74 :: s75 :: s76 :: s77 :: s78 :: s79 :: s80 :: s81 :: s82 :: s83 :: s84 :: s85 :: s86 :: s87 :: s88 :: s89 :: s90 :: s91 :: s92 :: s93 :: s94 :: s95 :: s96 :: s97 :: s98 :: s99 :: s100 :: s101 :: s102 :: s103 :: s104 :: s105 :: s106 :: s107 :: s108 :: s109 :: s110 :: s111 :: s112 :: s113 :: s114 :: s115 :: s116 :: s117 :: s118 :: s119 :: s120 :: s121 :: s122 :: s123 :: s124 :: s125 :: s126 :: s127 :: s128 :: s129 :: s130 :: s131 :: s132 :: s133 :: s134 :: s135 :: s136 :: s137 :: s138 :: s139 :: s140 :: s141 :: s142 :: s143 :: s144 :: []).toArray, []⟩ w4 := by
  replace hq := Lib.hid hq
  cases x <;> cases y <;> cases PA
  all_goals
    conv => arg 2; whnf
    go_wp2_with (go_at_call 32; refine (rpunct_any _ _).mono ?_; rintro e w9 ⟨rfl, rfl⟩; rw [hPA])
    exact hq.out _ _ _ _ _ _ _ _ _ _ _ rfl
end Go.Proofs.YtboeaofcioolnaaDoor
