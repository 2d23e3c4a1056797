/- The document's own pairs of runs: what lies between the two has none left. -/
import Derived.Test.YtboeaofcioolnaaDoorEmSearch
import Derived.Test.YtboeaofcioolnaaDoorTwo
namespace Go.Proofs.YtboeaofcioolnaaDoor
open Go.RowKit

theorem intEI : EI Tryd.prog 31 3 1 8 := EI.mk' Tryd.underlying31 (z := .int .i64 0) (by kernel_rfl) rfl (by omega)
theorem pairEI : EI Tryd.prog 48 50 3 24 := EI.mk' Tryd.underlying48 (z := .agg #[.int .i64 0, .int .i64 0, .int .i64 0]) (by kernel_rfl) rfl (by omega)
theorem lcells_set (L : List Nat) (i x : Nat) : (lcells L).set i (.int .i64 (x : Int)) = lcells (L.set i x) := by simp [lcells, List.map_set]
theorem lcells_len (L : List Nat) : (lcells L).length = L.length := by simp [lcells]
/-- the memory between two steps: what is left, the pairs -/
structure EmAt (w0 : World) (n g c1 : Nat) (L : List Nat) (ov : Value) (out : List (Nat × Nat × Nat)) (w : World) : Prop where
  left : w.ownsRow w0.heap.size 3 1 (.slice (some ⟨g, 0, none⟩) n c1) n (lcells L)
  pairs : w.ownsRow w0.heap.size 50 3 ov out.length (pcells out)
  apart : Apart (.slice (some ⟨g, 0, none⟩) n c1) ov
  below : Below w0.heap.size w0 w
  len : L.length = n
theorem EmAt.ext {w0 w u : World} {n g c1 : Nat} {L : List Nat} {ov : Value} {out : List (Nat × Nat × Nat)} (h : EmAt w0 n g c1 L ov out w) (hu : Below w.heap.size w u) : EmAt w0 n g c1 L ov out u :=
  ⟨own_below h.left hu, own_below h.pairs hu, h.apart, h.below.trans (hu.mono h.below.size), h.len⟩
theorem EmAt.lt {w0 w : World} {n g c1 : Nat} {L : List Nat} {ov : Value} {out : List (Nat × Nat × Nat)} (h : EmAt w0 n g c1 L ov out w) : w0.heap.size ≤ g ∧ g < w.heap.size := h.left.lt g rfl
theorem EmAt.leftAt {w0 w : World} {n g c1 : Nat} {L : List Nat} {ov : Value} {out : List (Nat × Nat × Nat)} (h : EmAt w0 n g c1 L ov out w) : LeftAt L g w := ⟨h.lt.2, fun _ hk => left_cell h.left hk⟩
/-- one is set -/
theorem EmAt.set {w0 w : World} {n g c1 : Nat} {L : List Nat} {ov : Value} {out : List (Nat × Nat × Nat)} (h : EmAt w0 n g c1 L ov out w) (i x : Nat) : EmAt w0 n g c1 (L.set i x) ov out (w.setCell ⟨g, i, none⟩ (.int .i64 (x : Int))) := by
  obtain ⟨h1, h2⟩ := h.left.stored i (.int .i64 (x : Int))
  exact ⟨by rw [← lcells_set]; exact h1, own_apart (a := .slice (some ⟨g, 0, none⟩) n c1) h.pairs h2 h.apart, h.apart, h.below.setCell (p := ⟨g, i, none⟩) h.lt.1 _, by rw [List.length_set]; exact h.len⟩
/-- a pair more -/
theorem EmAt.push {w0 w w7 : World} {n g c1 : Nat} {L : List Nat} {ov ov7 : Value} {out : List (Nat × Nat × Nat)} {x : Nat × Nat × Nat} {cs : List Value} (h : EmAt w0 n g c1 L ov out w)
    (ho : w7.ownsRow w0.heap.size 50 3 ov7 (out.length + 1) (pcells out ++ cs)) (hcs : cs = pcell x) (hg : w.grownBy w7 ov.ownBlock) (hb : Below w0.heap.size w w7) (hat : At w.heap.size ov ov7) :
    EmAt w0 n g c1 L ov7 (out ++ [x]) w7 :=
  ⟨own_apart h.left hg h.apart.symm, by subst hcs; simpa [pcells] using ho, (h.apart.symm.step h.left hat (Nat.le_refl _)).symm, h.below.trans hb, h.len⟩
theorem EmAt.fz {w0 w : World} {n g c1 : Nat} {L : List Nat} {ov : Value} {out : List (Nat × Nat × Nat)} (h : EmAt w0 n g c1 L ov out w) (i : Nat) : w.frozen? ⟨g, i, none⟩ = false := h.left.frozenAt i

set_option maxHeartbeats 4000000 in
set_option maxRecDepth 100000 in
theorem em_wipe (w0 w5 : World) (n g c1 k i s : Nat) (L : List Nat) (ov : Value) (out : List (Nat × Nat × Nat)) (hik : i < k) (hkn : k < n) (hn : n ≤ 1000000) (hM : EmAt w0 n g c1 (Em.wiped L i k s (i + 1)) ov out w5)
    (s0 s1 s2 s4 s5 s6 s8 s9 s11 s12 s13 s14 s15 s16 s17 s18 s19 s20 s21 s22 s23 s24 s25 s26 s27 s28 s29 s30 s31 s32 s33 s34 s35 s36 s37 s38 s39 s40 s41 s42 s43 s44 s45 s46 s47 s48 s49 s50 s51 s52 s53 s54 s55 s56 s57 s58 s59 s60 s61 s62 s63 s64 s65 s66 s67 s68 s69 s70 s71 s72 s73 s74 s75 s76 s77 s78 s79 s80 s81 s82 s83 s84 s85 s86 s87 s88 s89 s90 s91 s92 s93 s94 s95 s96 s97 s98 s99 s100 s101 s102 s103 s104 s105 s106 s107 s108 s109 s110 s111 s112 s113 s114 s115 s116 s117 s118 s119 s120 s121 s122 s123 s124 s125 s126 s127 s128 s129 s130 s131 s132 s133 s134 s135 s136 : Value) (Q0 : Exit → Act → World → Prop)
    (hexit : ∀ (u127 u128 u129 u130 u131 u132 u133 u134 : Value) (wq : World), EmAt w0 n g c1 (Em.lower L i k s) ov out wq → Q0 (.exit 8) ⟨(s0 :: s1 :: s2 :: .slice (some ⟨g, 0, none⟩) n c1 :: s4 :: s5 :: s6 :: .int .i64 (k : Int) :: s8 :: s9 :: .int .i64 (k : Int) :: s11 :: s12 :: s13 :: s14 :: s15 :: s16 :: s17 :: s18 :: s19 :: s20 :: s21 :: s22 :: s23 :: s24 :: s25 :: s26 :: s27 :: s28 :: s29 :: s30 :: s31 :: s32 :: s33 :: s34 :: s35 :: s36 :: s37 :: s38 :: s39 :: s40 :: s41 :: s42 :: s43 :: s44 :: s45 :: s46 :: s47 :: s48 :: s49 :: s50 :: s51 :: s52 :: s53 :: s54 :: s55 :: s56 :: s57 :: s58 :: s59 :: s60 :: s61 :: s62 :: s63 :: s64 :: s65 :: s66 :: s67 :: s68 :: s69 :: s70 :: s71 :: s72 :: s73 :: s74 :: s75 :: s76 :: s77 :: s78 :: s79 :: s80 :: s81 :: s82 :: s83 :: s84 :: s85 :: s86 :: s87 :: s88 :: s89 :: s90 :: s91 :: s92 :: s93 :: s94 :: s95 :: s96 :: s97 :: s98 :: s99 :: s100 :: s101 :: s102 :: s103 :: s104 :: s105 :: s106 :: s107 :: s108 :: s109 :: s110 :: s111 :: s112 :: s113 :: s114 :: s115 :: s116 :: s117 :: s118 :: s119 :: s120 :: s121 :: s122 :: s123 :: s124 :: s125 :: s126 :: u127 :: u128 :: u129 :: u130 :: u131 :: u132 :: u133 :: u134 :: s135 :: s136 :: []).toArray, []⟩ wq) :
    Code.wp Tryd.prog (Code.loop (loopBody Tryd.f15 4)) Q0 ⟨(s0 :: s1 :: s2 :: .slice (some ⟨g, 0, none⟩) n c1 :: s4 :: s5 :: s6 :: .int .i64 (k : Int) :: s8 :: s9 :: .int .i64 ((i : Int) + 1) :: s11 :: s12 :: s13 :: s14 :: s15 :: s16 :: s17 :: s18 :: s19 :: s20 :: s21 :: s22 :: s23 :: s24 :: s25 :: s26 :: s27 :: s28 :: s29 :: s30 :: s31 :: s32 :: s33 :: s34 :: s35 :: s36 :: s37 :: s38 :: s39 :: s40 :: s41 :: s42 :: s43 :: s44 :: s45 :: s46 :: s47 :: s48 :: s49 :: s50 :: s51 :: s52 :: s53 :: s54 :: s55 :: s56 :: s57 :: s58 :: s59 :: s60 :: s61 :: s62 :: s63 :: s64 :: s65 :: s66 :: s67 :: s68 :: s69 :: s70 :: s71 :: s72 :: s73 :: s74 :: s75 :: s76 :: s77 :: s78 :: s79 :: s80 :: s81 :: s82 :: s83 :: s84 :: s85 :: s86 :: s87 :: s88 :: s89 :: s90 :: s91 :: s92 :: s93 :: s94 :: s95 :: s96 :: s97 :: s98 :: s99 :: s100 :: s101 :: s102 :: s103 :: s104 :: s105 :: s106 :: s107 :: s108 :: s109 :: s110 :: s111 :: s112 :: s113 :: s114 :: s115 :: s116 :: s117 :: s118 :: s119 :: s120 :: s121 :: s122 :: s123 :: s124 :: s125 :: s126 :: s127 :: s128 :: s129 :: s130 :: s131 :: s132 :: s133 :: s134 :: s135 :: s136 :: []).toArray, []⟩ w5 := by
  replace hexit := Lib.hid hexit
  replace hM := Lib.hid hM
  conv => arg 2; arg 1; whnf
  go_loopw [10] (fun v wr => ∃ j : Nat, i < j ∧ j ≤ k ∧ v = .int .i64 (j : Int) ∧ Hid (EmAt w0 n g c1 (Em.wiped L i k s j) ov out wr)) (fun v _ => k - (intOf v).toNat)
  case atStart => exact ⟨i + 1, by omega, by omega, by go_num, hM⟩
  case round =>
    obtain ⟨j, hij, hjk, rfl, hA⟩ := hrel
    clear hM
    rcases Nat.lt_or_eq_of_le hjk with hlt | rfl
    · have hfz := hA.out.fz j
      have hgw := hA.out.lt.2
      have hLl : L.length = n := by rw [← hA.out.len, Em.wiped_len]
      have hv := left_cell hA.out.left (k := j) (by rw [Em.wiped_len]; omega)
      have hst := Lib.hid (show EmAt w0 n g c1 (Em.wiped L i k s (j + 1)) ov out (wr.setCell ⟨g, j, none⟩ (.int .i64 0)) from by
        rw [Em.wiped_step hij hlt (by omega)]; exact hA.out.set j 0)
      have hjn : j < n := by omega
      clear hexit
      go_wp2_with fail
      go_roundw
      case rel => exact ⟨j + 1, by omega, by omega, by go_num, hst⟩
      case measure => simp [intOf] <;> omega
    · go_wp2_with fail
      exact hexit.out _ _ _ _ _ _ _ _ _ hA.out
end Go.Proofs.YtboeaofcioolnaaDoor
