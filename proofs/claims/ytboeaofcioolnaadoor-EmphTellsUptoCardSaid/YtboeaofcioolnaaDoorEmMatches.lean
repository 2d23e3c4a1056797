/- Law 10's own helps: matches: the program's pairs held against the document's. What the program's Match does is a premise here. -/
import Derived.Test.YtboeaofcioolnaaDoorEmSame
import Derived.Deep.DeepCutAuto
namespace Go.Proofs.YtboeaofcioolnaaDoor
open Go.RowKit

/-- what package emph's Match does -/
def PMatch : Prop := ∀ (l : List Em.R) (A : Option Addr) (c : Nat) (w : World), Row w w.heap.size 4 A l.length (acells l) → l.length ≤ 1000000 →
  Calls Tryd.prog 13 #[.slice A l.length c] w fun e w' => (∃ v, e = .returned v ∧ w'.ownsRow w.heap.size 41 3 v (Em.pairs l).length (pcells (Em.pairs l))) ∧ Below w.heap.size w w'

/-- a row of pairs, as it is read -/
def PairsAt (X : List (Nat × Nat × Nat)) (g : Nat) (w : World) : Prop := ∀ k (hk : k < X.length), w.cell? ⟨g, k * 3, none⟩ = some (.int .i64 (X[k].1 : Int)) ∧ w.cell? ⟨g, k * 3 + 1, none⟩ = some (.int .i64 (X[k].2.1 : Int)) ∧ w.cell? ⟨g, k * 3 + 2, none⟩ = some (.int .i64 (X[k].2.2 : Int))
theorem pairsAt_own {X : List (Nat × Nat × Nat)} {w : World} {B n g c : Nat} {E : TypeId} (h : w.ownsRow B E 3 (.slice (some ⟨g, 0, none⟩) n c) n (pcells X)) : PairsAt X g w := by
  intro k hk
  have hat := fun i (hi : i < 3) => flat_at (f := pcell) (m := 3) (fun _ => rfl) X k i hk hi
  have go := fun j v (hj : (pcells X)[j]? = some v) => h.cells (g := g) rfl j v hj
  have ea : ∀ j, (⟨g, 0, none⟩ : Addr).add j = ⟨g, j, none⟩ := fun j => by unfold Addr.add; split <;> simp_all
  exact ⟨by have := go (k * 3 + 0) _ ((hat 0 (by omega)).trans rfl); rwa [ea] at this, by have := go (k * 3 + 1) _ ((hat 1 (by omega)).trans rfl); rwa [ea] at this, by have := go (k * 3 + 2) _ ((hat 2 (by omega)).trans rfl); rwa [ea] at this⟩

set_option maxHeartbeats 4000000 in
set_option maxRecDepth 100000 in
theorem matches_like (g g' n c c' k : Nat) (x : Nat × Nat × Nat) (w : World) (hk : k < n)
    (x0 : w.cell? ⟨g, k * 3, none⟩ = some (.int .i64 (x.1 : Int))) (x1 : w.cell? ⟨g, k * 3 + 1, none⟩ = some (.int .i64 (x.2.1 : Int))) (x2 : w.cell? ⟨g, k * 3 + 2, none⟩ = some (.int .i64 (x.2.2 : Int)))
    (y0 : w.cell? ⟨g', k * 3, none⟩ = some (.int .i64 (x.1 : Int))) (y1 : w.cell? ⟨g', k * 3 + 1, none⟩ = some (.int .i64 (x.2.1 : Int))) (y2 : w.cell? ⟨g', k * 3 + 2, none⟩ = some (.int .i64 (x.2.2 : Int)))
    (s0 s1 s2 s3 s4 s5 s9 s10 s11 s12 s13 s14 s15 s16 s17 s18 s19 s20 s21 s22 s23 s24 s25 s26 s27 s28 s29 s30 s31 s32 s33 s34 s35 s36 s37 s38 s39 s40 s41 s42 s43 s44 s45 s46 s47 s48 s49 s50 s51 s52 s53 s54 s55 s56 s57 s58 s59 s60 s61 s62 s63 s64 s65 s66 s67 s68 s69 s70 s71 s72 s73 s74 s75 s76 s77 s78 s79 : Value) (Q : Exit → Act → World → Prop) (hpan : ∀ c a d v w, Q (.panic c) (Act.put a d v) w → Q (.panic c) a w)
    (hq : ∀ (v42 v43 v44 v45 v46 v47 v48 v49 v50 v51 v52 v53 v54 v55 v56 v57 v58 v59 v60 v61 v62 v63 v64 v65 v66 v67 v68 v69 v70 v71 v72 v73 v74 v75 v76 v77 : Value) (wq : World), Below w.heap.size w wq → Q .normal ⟨(s0 :: s1 :: s2 :: s3 :: s4 :: s5 :: .slice (some ⟨g, 0, none⟩) n c :: .slice (some ⟨g', 0, none⟩) n c' :: .int .i64 (k : Int) :: s9 :: s10 :: s11 :: s12 :: s13 :: s14 :: s15 :: s16 :: s17 :: s18 :: s19 :: s20 :: s21 :: s22 :: s23 :: s24 :: s25 :: s26 :: s27 :: s28 :: s29 :: s30 :: s31 :: s32 :: s33 :: s34 :: s35 :: s36 :: s37 :: s38 :: s39 :: s40 :: s41 :: v42 :: v43 :: v44 :: v45 :: v46 :: v47 :: v48 :: v49 :: v50 :: v51 :: v52 :: v53 :: v54 :: v55 :: v56 :: v57 :: v58 :: v59 :: v60 :: v61 :: v62 :: v63 :: v64 :: v65 :: v66 :: v67 :: v68 :: v69 :: v70 :: v71 :: v72 :: v73 :: v74 :: v75 :: v76 :: v77 :: .bool false :: s79 :: []).toArray, []⟩ wq) :
    Code.wp Tryd.prog (regionAt Tryd.f8 13) Q ⟨(s0 :: s1 :: s2 :: s3 :: s4 :: s5 :: .slice (some ⟨g, 0, none⟩) n c :: .slice (some ⟨g', 0, none⟩) n c' :: .int .i64 (k : Int) :: s9 :: s10 :: s11 :: s12 :: s13 :: s14 :: s15 :: s16 :: s17 :: s18 :: s19 :: s20 :: s21 :: s22 :: s23 :: s24 :: s25 :: s26 :: s27 :: s28 :: s29 :: s30 :: s31 :: s32 :: s33 :: s34 :: s35 :: s36 :: s37 :: s38 :: s39 :: s40 :: s41 :: s42 :: s43 :: s44 :: s45 :: s46 :: s47 :: s48 :: s49 :: s50 :: s51 :: s52 :: s53 :: s54 :: s55 :: s56 :: s57 :: s58 :: s59 :: s60 :: s61 :: s62 :: s63 :: s64 :: s65 :: s66 :: s67 :: s68 :: s69 :: s70 :: s71 :: s72 :: s73 :: s74 :: s75 :: s76 :: s77 :: s78 :: s79 :: []).toArray, []⟩ w := by
  replace hq := Lib.hid hq
  replace hpan := Lib.hid hpan
  have t0 : ((x.1 : Int) != (x.1 : Int)) = false := by simp
  have t1 : ((x.2.1 : Int) != (x.2.1 : Int)) = false := by simp
  have t2 : ((x.2.2 : Int) != (x.2.2 : Int)) = false := by simp
  generalize x.1 = a at *
  generalize x.2.1 = b at *
  generalize x.2.2 = d at *
  conv => arg 2; whnf
  go_quiet (fail)
  exact hq.out _ _ _ _ _ _ _ _ _ _ _ _ _ _ _ _ _ _ _ _ _ _ _ _ _ _ _ _ _ _ _ _ _ _ _ _ _ (below_drewN (Below.refl _ _) _)
theorem rrunEI : EI Tryd.prog 46 47 4 24 := EI.mk' Tryd.underlying46 (z := .agg #[.int .u8 0, .int .i64 0, .bool false, .bool false]) (by kernel_rfl) rfl (by omega)
set_option maxHeartbeats 4000000 in
set_option maxRecDepth 100000 in
theorem matches_any (hP : PMatch) (l : List Em.R) (A : Option Addr) (c : Nat) (w : World) (h : Row w w.heap.size 4 A l.length (acells l)) (hl : l.length ≤ 1000000) :
    Calls Tryd.prog 8 #[.slice A l.length c] w fun e w' => e = .returned (.bool true) ∧ Below w.heap.size w w' := by
  have hR := Lib.hid h
  clear h
  replace hP := Lib.hid hP
  go_enter Tryd.func8, Tryd.ntmps8
  go_wp2_with fail
  go_loopw [3, 11] (fun v i wr => ∃ k : Nat, k ≤ l.length ∧ i = .int .i64 k ∧ Hid (wr.ownsRow w.heap.size 47 4 v k (acells (l.take k))) ∧ Below w.heap.size w wr) (fun _ i _ => l.length - (intOf i).toNat)
  case atStart => exact ⟨0, Nat.zero_le _, rfl, Lib.hid (World.ownsRow_nil _ _ _ _), Below.refl _ _⟩
  case round =>
    obtain ⟨k, hk, rfl, hown, hb⟩ := hrel
    have hz := hb.size
    by_cases hkl : k < l.length
    · obtain ⟨b, o, rfl, hbb, hc⟩ := run_cell hR.out (by omega)
      obtain ⟨c0, c1, c2, c3⟩ := hc k hkl
      have d0 := (hb.cell (p := ⟨b, o + k * 4, none⟩) hbb).trans c0
      have d1 := (hb.cell (p := ⟨b, o + k * 4 + 1, none⟩) hbb).trans c1
      have d2 := (hb.cell (p := ⟨b, o + k * 4 + 2, none⟩) hbb).trans c2
      have d3 := (hb.cell (p := ⟨b, o + k * 4 + 3, none⟩) hbb).trans c3
      clear hc c0 c1 c2 c3
      have ht : Hid (acells (l.take (k + 1)) = acells (l.take k) ++ acell l[k]) := Lib.hid (by rw [List.take_succ_eq_append_getElem hkl, acells_snoc])
      obtain ⟨r, hr⟩ : ∃ r, r = l[k] := ⟨_, rfl⟩
      rw [← hr] at d0 d1 d2 d3 ht
      clear hr
      have hbw : b < wr.heap.size := Nat.lt_of_lt_of_le hbb hb.size
      go_wp2_with (at_builtin; refine wpList_app_new rfl (.tmp 15) (.tmp 25) rfl rrunEI rfl (hown.out.alloc _) rfl (by simp) rfl (by intro u hu; simp at hu; rcases hu with rfl | rfl | rfl | rfl <;> rfl) (by omega) (by omega) (by simp; omega) ?_; intro v2 w2 hown2 hg2 hb3)
      go_roundw
      case rel => exact ⟨k + 1, hkl, by go_num, Lib.hid (by rw [ht.out]; simpa [acell] using hown2), hb.trans (((Below.refl _ _).alloc hz _).trans hb3)⟩
      case measure => simp [intOf]; omega
    · have hke : k = l.length := by omega
      subst hke
      rw [List.take_of_length_le (Nat.le_refl _)] at hown
      obtain ⟨A1, c1, rfl, hc1⟩ := own_shape hown.out
      have p := fun wz hz => hP.out l A c wz hz hl
      have q := fun wz hz => rmatch_any l A1 c1 wz hz hl
      have hb0 := Lib.hid hb
      obtain ⟨X, hX⟩ : ∃ X, X = Em.pairs l := ⟨_, rfl⟩
      rw [← hX] at p q
      have hXl : X.length ≤ 1000000000 := by
        have := (Em.bd_pairs l)
        rw [hX]; omega
      clear hX
      go_wp2_with fail
      refine (p _ (hR.out.ext hb0.out)).mono ?_
      rintro e w1 ⟨⟨v1, rfl, ho1⟩, hb1⟩
      have hown1 := Lib.hid (own_below hown.out hb1)
      have hbb1 := Lib.hid (ext_trans hb0.out hb1)
      replace ho1 := Lib.hid ho1
      clear hb1 hown p
      go_wp2_with fail
      refine (q _ (Row.own hown1.out)).mono ?_
      rintro e w2 ⟨⟨v2, rfl, ho2⟩, hb2⟩
      have ho1' := Lib.hid (own_below ho1.out hb2)
      have hbb2 := Lib.hid (ext_trans hbb1.out hb2)
      replace ho2 := Lib.hid ho2
      clear hb2 q ho1 hown1 hbb1
      obtain ⟨A2, c2, rfl, hc2⟩ := own_shape ho1'.out
      obtain ⟨A3, c3, rfl, hc3⟩ := own_shape ho2.out
      have hne : ((X.length : Int) != (X.length : Int)) = false := by simp
      have hend : Hid (Below w.heap.size w w2) := hbb2
      go_wp2_with fail
      go_loopw [39] (fun i wr => ∃ k : Nat, k ≤ X.length ∧ i = .int .i64 k ∧ Hid (Below w2.heap.size w2 wr)) (fun i _ => X.length - (intOf i).toNat)
      case atStart => exact ⟨0, Nat.zero_le _, rfl, Lib.hid (Below.refl _ _)⟩
      case round =>
        obtain ⟨k, hk, rfl, hq⟩ := hrel
        by_cases hkX : k < X.length
        · obtain ⟨g, rfl⟩ : ∃ g, A2 = some ⟨g, 0, none⟩ := by
            rcases ho1'.out.2 with ⟨hv, h0⟩ | ⟨g, cap, cur, hv, _⟩
            · omega
            · injection hv with h1 _ _; exact ⟨g, h1⟩
          obtain ⟨g', rfl⟩ : ∃ g, A3 = some ⟨g, 0, none⟩ := by
            rcases ho2.out.2 with ⟨hv, h0⟩ | ⟨g, cap, cur, hv, _⟩
            · omega
            · injection hv with h1 _ _; exact ⟨g, h1⟩
          obtain ⟨x0, x1, x2⟩ := pairsAt_own (own_below ho1'.out hq.out) k hkX
          obtain ⟨y0, y1, y2⟩ := pairsAt_own (own_below ho2.out hq.out) k hkX
          go_upto_region 13 with fail
          refine matches_like g g' X.length c2 c3 k X[k] _ hkX x0 x1 x2 y0 y1 y2 _ _ _ _ _ _ _ _ _ _ _ _ _ _ _ _ _ _ _ _ _ _ _ _ _ _ _ _ _ _ _ _ _ _ _ _ _ _ _ _ _ _ _ _ _ _ _ _ _ _ _ _ _ _ _ _ _ _ _ _ _ _ _ _ _ _ _ _ _ _ _ _ _ _ _ _ _ _ (fun _ _ d _ _ h => by cases d <;> exact h) ?_
          intro v42 v43 v44 v45 v46 v47 v48 v49 v50 v51 v52 v53 v54 v55 v56 v57 v58 v59 v60 v61 v62 v63 v64 v65 v66 v67 v68 v69 v70 v71 v72 v73 v74 v75 v76 v77 wq hwq
          have hq2 := Lib.hid (ext_trans hq.out hwq)
          clear x0 x1 x2 y0 y1 y2
          go_wp2_with fail
          go_roundw
          case rel => exact ⟨k + 1, hkX, by go_num, hq2⟩
          case measure => simp [intOf]; omega
        · have hbq := Lib.hid (ext_trans hend.out hq.out)
          go_wp2_with fail
          go_ret
          exact ⟨rfl, hbq.out⟩
end Go.Proofs.YtboeaofcioolnaaDoor
