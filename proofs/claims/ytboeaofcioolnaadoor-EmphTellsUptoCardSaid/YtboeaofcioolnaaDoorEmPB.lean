/- Package emph: held, nearest, pair, closeWith, and how Match begins. -/
import Derived.Test.YtboeaofcioolnaaDoorEmPA
import Derived.Deep.DeepCutAuto
import Derived.Test.YtboeaofcioolnaaDoorCanon
import Derived.Test.YtboeaofcioolnaaDoorLoops
section
namespace Go.Proofs.YtboeaofcioolnaaDoor
open Go.RowKit

theorem pheldEI : EI Tryd.prog 24 29 4 24 := EI.mk' Tryd.underlying24 (z := .agg #[.int .u8 0, .int .i64 0, .bool false, .bool false]) (by kernel_rfl) rfl (by omega)
theorem made_runs (n : Nat) : (madeCells #[.int .u8 0, .int .i64 0, .bool false, .bool false] (n * 4)).toList = acells (List.replicate n Em.none_) := by
  apply List.ext_getElem?
  intro j
  by_cases hj : j < n * 4
  · have hk : j / 4 < (List.replicate n Em.none_).length := by rw [List.length_replicate]; omega
    have h1 := flat_at (f := acell) (m := 4) (fun _ => rfl) (List.replicate n Em.none_) (j / 4) (j % 4) hk (by omega)
    rw [show j / 4 * 4 + j % 4 = j by omega] at h1
    rw [show acells (List.replicate n Em.none_) = (List.replicate n Em.none_).flatMap acell from rfl, h1, List.getElem_replicate]
    simp only [madeCells, Array.toList_map, Array.toList_range, List.getElem?_map, List.getElem?_range hj, Option.map_some]
    have h4 : j % 4 = 0 ∨ j % 4 = 1 ∨ j % 4 = 2 ∨ j % 4 = 3 := by omega
    rcases h4 with h | h | h | h <;> (simp only [List.size_toArray, List.length_cons, List.length_nil, h]; rfl)
  · rw [List.getElem?_eq_none (by simp [madeCells]; omega), List.getElem?_eq_none (by rw [acells_len, List.length_replicate]; omega)]
/-- a run set -/
theorem acells_set (X : List Em.R) (r : Em.R) : ∀ (k : Nat), k < X.length → ((((acells X).set (k * 4) (.int .u8 (r.ch.toNat : Int))).set (k * 4 + 1) (.int .i64 r.n)).set (k * 4 + 2) (.bool r.o)).set (k * 4 + 3) (.bool r.c) = acells (X.set k r) := by
  induction X with
  | nil => intro k hk; simp at hk
  | cons x X ih =>
    intro k hk
    cases k with
    | zero => rfl
    | succ k =>
      have := ih k (by simpa using hk)
      rw [List.set_cons_succ, show acells (x :: X.set k r) = acell x ++ acells (X.set k r) from rfl, ← this, show acells (x :: X) = acell x ++ acells X from rfl]
      have h4 : (acell x).length = 4 := rfl
      rw [List.set_append_right _ _ (by rw [h4]; omega), List.set_append_right _ _ (by rw [h4]; omega), List.set_append_right _ _ (by rw [h4]; omega), List.set_append_right _ _ (by rw [h4]; omega), h4,
        show (k + 1) * 4 - 4 = k * 4 by omega, show (k + 1) * 4 + 1 - 4 = k * 4 + 1 by omega, show (k + 1) * 4 + 2 - 4 = k * 4 + 2 by omega, show (k + 1) * 4 + 3 - 4 = k * 4 + 3 by omega]
/-- the first ones held -/
def mixH (l : List Em.R) (k : Nat) : List Em.R := (Em.hold l).take k ++ List.replicate (l.length - k) Em.none_
theorem hold_len (l : List Em.R) : (Em.hold l).length = l.length := by simp [Em.hold]
theorem mixH_len {l : List Em.R} {k : Nat} (h : k ≤ l.length) : (mixH l k).length = l.length := by simp [mixH, hold_len]; omega
theorem mixH_zero (l : List Em.R) : mixH l 0 = List.replicate l.length Em.none_ := by simp [mixH]
theorem mixH_all (l : List Em.R) : mixH l l.length = Em.hold l := by
  unfold mixH
  rw [List.take_of_length_le (by rw [hold_len]; exact Nat.le_refl _), Nat.sub_self]; simp
theorem mixH_set {l : List Em.R} {k : Nat} (h : k < l.length) : (mixH l k).set k ⟨l[k].ch, Em.held l[k].n, l[k].o, l[k].c⟩ = mixH l (k + 1) := by
  unfold mixH
  have hh : k < (Em.hold l).length := by rw [hold_len]; exact h
  obtain ⟨m, hm⟩ : ∃ m, l.length - k = m + 1 := ⟨l.length - k - 1, by omega⟩
  have hl : ((Em.hold l).take k).length = k := by rw [List.length_take]; omega
  rw [List.set_append_right _ _ (by omega), hl, Nat.sub_self, hm, List.replicate_succ, List.set_cons_zero, show l.length - (k + 1) = m by omega, List.take_succ_eq_append_getElem hh, List.append_assoc]
  simp [Em.hold]
theorem mixH_at {l : List Em.R} {k : Nat} (h : k < l.length) : (mixH l k)[k]'(by rw [mixH_len (by omega)]; exact h) = Em.none_ := by
  have hl : ((Em.hold l).take k).length = k := by rw [List.length_take, hold_len]; omega
  simp only [mixH]
  rw [List.getElem_append_right (by omega)]
  simp
/-- four cells set -/
theorem own_set4 {w : World} {B g n c : Nat} {X : List Em.R} {E : TypeId} (h : w.ownsRow B E 4 (.slice (some ⟨g, 0, none⟩) n c) n (acells X)) (r : Em.R) {k : Nat} (hk : k < X.length) :
    ((((w.setCell ⟨g, k * 4, none⟩ (.int .u8 (r.ch.toNat : Int))).setCell ⟨g, k * 4 + 1, none⟩ (.int .i64 r.n)).setCell ⟨g, k * 4 + 2, none⟩ (.bool r.o)).setCell ⟨g, k * 4 + 3, none⟩ (.bool r.c)).ownsRow B E 4 (.slice (some ⟨g, 0, none⟩) n c) n (acells (X.set k r)) := by
  have := ((((h.stored (k * 4) (.int .u8 (r.ch.toNat : Int))).1.stored (k * 4 + 1) (.int .i64 r.n)).1.stored (k * 4 + 2) (.bool r.o)).1.stored (k * 4 + 3) (.bool r.c)).1
  rwa [acells_set X r k hk] at this
theorem own_cell4 {w : World} {B g n c : Nat} {X : List Em.R} {E : TypeId} (h : w.ownsRow B E 4 (.slice (some ⟨g, 0, none⟩) n c) n (acells X)) {k : Nat} (hk : k < X.length) :
    w.cell? ⟨g, k * 4, none⟩ = some (.int .u8 (X[k].ch.toNat : Int)) ∧ w.cell? ⟨g, k * 4 + 1, none⟩ = some (.int .i64 X[k].n) ∧ w.cell? ⟨g, k * 4 + 2, none⟩ = some (.bool X[k].o) ∧ w.cell? ⟨g, k * 4 + 3, none⟩ = some (.bool X[k].c) := by
  have hat := fun i (hi : i < 4) => flat_at (f := acell) (m := 4) (fun _ => rfl) X k i hk hi
  have hc := fun j u hu => h.cells (g := g) rfl j u hu
  have ha : ∀ j, (⟨g, 0, none⟩ : Addr).add j = ⟨g, j, none⟩ := fun j => by unfold Addr.add; split <;> simp_all
  simp only [ha] at hc
  exact ⟨hc _ _ ((hat 0 (by omega)).trans rfl), hc _ _ ((hat 1 (by omega)).trans rfl), hc _ _ ((hat 2 (by omega)).trans rfl), hc _ _ ((hat 3 (by omega)).trans rfl)⟩
theorem below_set4 {B : Nat} {a w : World} {g j : Nat} (h : Below B a w) (hg : B ≤ g) (p q r s : Value) : Below B a ((((w.setCell ⟨g, j, none⟩ p).setCell ⟨g, j + 1, none⟩ q).setCell ⟨g, j + 2, none⟩ r).setCell ⟨g, j + 3, none⟩ s) :=
  (((h.setCell (p := ⟨g, j, none⟩) hg _).setCell (p := ⟨g, j + 1, none⟩) hg _).setCell (p := ⟨g, j + 2, none⟩) hg _).setCell (p := ⟨g, j + 3, none⟩) hg _

set_option maxHeartbeats 4000000 in
set_option maxRecDepth 100000 in
theorem pheld_any (l : List Em.R) (A : Option Addr) (c : Nat) (w : World) (h : Row w w.heap.size 4 A l.length (acells l)) (hl : l.length ≤ 1000000) :
    Calls Tryd.prog 20 #[.slice A l.length c] w fun e w' => (∃ v, e = .returned v ∧ w'.ownsRow w.heap.size 29 4 v l.length (acells (Em.hold l))) ∧ Below w.heap.size w w' := by
  have hR := Lib.hid h
  clear h
  have hmk := fun w => run_mk pheldEI (z := .agg #[.int .u8 0, .int .i64 0, .bool false, .bool false]) (by kernel_rfl) l.length (by omega) (by omega) w
  have hown0 := Lib.hid (own_mk w w.heap.size 4 l.length 29 #[.int .u8 0, .int .i64 0, .bool false, .bool false] (Nat.le_refl _) (by omega))
  replace hown0 := Lib.hid (by have := hown0.out; rwa [made_runs, ← mixH_zero] at this)
  simp only [Value.cells] at hmk
  generalize madeCells _ (l.length * 4) = C at *
  have hb0 := Lib.hid (ext_alloc w (.cells C 29))
  go_enter Tryd.func20, Tryd.ntmps20
  go_wp2_with fail
  go_loopw [11] (fun i wr => ∃ k : Nat, k ≤ l.length ∧ i = .int .i64 k ∧ Hid (wr.ownsRow w.heap.size 29 4 (.slice (some ⟨w.heap.size, 0, none⟩) l.length l.length) l.length (acells (mixH l k))) ∧ Below w.heap.size w wr) (fun i _ => l.length - (intOf i).toNat)
  case atStart => exact ⟨0, Nat.zero_le _, rfl, hown0, hb0.out⟩
  case round =>
    obtain ⟨k, hk, rfl, hown, hb⟩ := hrel
    clear hown0 hb0 hmk
    have hz := hb.size
    by_cases hkl : k < l.length
    · obtain ⟨b, o, rfl, hbb, hc⟩ := run_cell hR.out (by omega)
      obtain ⟨c0, c1, c2, c3⟩ := hc k hkl
      have d0 := (hb.cell (p := ⟨b, o + k * 4, none⟩) hbb).trans c0
      have d1 := (hb.cell (p := ⟨b, o + k * 4 + 1, none⟩) hbb).trans c1
      have d2 := (hb.cell (p := ⟨b, o + k * 4 + 2, none⟩) hbb).trans c2
      have d3 := (hb.cell (p := ⟨b, o + k * 4 + 3, none⟩) hbb).trans c3
      clear hc c0 c1 c2 c3
      obtain ⟨X, hX, hXs, hkX⟩ : ∃ X : List Em.R, mixH l k = X ∧ X.set k ⟨l[k].ch, Em.held l[k].n, l[k].o, l[k].c⟩ = mixH l (k + 1) ∧ k < X.length := ⟨_, rfl, mixH_set hkl, by rw [mixH_len (by omega)]; exact hkl⟩
      rw [hX] at hown
      clear hX
      replace hXs := Lib.hid hXs
      have hlt := hown.out.lt _ rfl
      go_upto_region 5 with fail
      generalize hw2 : World.alloc wr _ = w2
      have hb2 : Below wr.heap.size wr w2 := by rw [← hw2]; exact ext_alloc _ _
      have hloc : w2.heap[wr.heap.size]? = some (.cells #[.int .u8 (l[k].ch.toNat : Int), .int .i64 l[k].n, .bool l[k].o, .bool l[k].c] 29 (0, 0)) := by rw [← hw2]; exact heap_alloc_new _ _
      clear hw2
      have hown2 := own_below hown.out hb2
      have hB2 := hb.trans (hb2.mono hz)
      obtain ⟨y0, y1, y2, y3⟩ := four hloc
      have hfz := blk_free hloc
      obtain ⟨kk, hkk⟩ : ∃ kk : Int, kk = (if l[k].n < 0 then 0 else l[k].n) := ⟨_, rfl⟩
      have hk1 : (if l[k].n < 0 then 0 else l[k].n) = kk := hkk.symm
      have hk2 : max l[k].n 0 = kk := by rw [hkk]; split <;> omega
      have hk3 : (if (100 : Int) < kk then (100 : Int) else kk) = ((Em.held l[k].n : Nat) : Int) := by unfold Em.held; rw [hkk]; split <;> split <;> omega
      have hk4 : min kk 100 = ((Em.held l[k].n : Nat) : Int) := by unfold Em.held; rw [hkk]; split <;> omega
      have hset := fun (v : Value) => heap_setCell_same w2 wr.heap.size 1 _ _ v hloc
      replace hset := Lib.hid hset
      replace hloc := Lib.hid hloc
      replace hown2 := Lib.hid hown2
      replace hB2 := Lib.hid hB2
      clear hkk d0 d1 d2 d3
      go_upto_region 6 with fail
      generalize hw3 : World.setCell w2 _ _ = w3
      have hloc3 : w3.heap[wr.heap.size]? = some (.cells #[.int .u8 (l[k].ch.toNat : Int), .int .i64 (Em.held l[k].n : Nat), .bool l[k].o, .bool l[k].c] 29 (0, 0)) := by rw [← hw3]; exact hset.out _
      have hown3 := Lib.hid (show w3.ownsRow w.heap.size 29 4 (.slice (some ⟨w.heap.size, 0, none⟩) l.length l.length) l.length (acells X) from by
        rw [← hw3]
        exact World.ownsRow.kept hown2.out (grown_set w2 ⟨wr.heap.size, 1, none⟩ _) (.inr fun e => by
          have e2 : w.heap.size = wr.heap.size := Option.some.inj e
          omega))
      have hB3 : Below w.heap.size w w3 := by rw [← hw3]; exact hB2.out.setCell (p := ⟨wr.heap.size, 1, none⟩) hz _
      clear hw3 hset hown2 hB2 y0 y1 y2 y3 hfz hloc hown hb hb2
      obtain ⟨y0, y1, y2, y3⟩ := four hloc3
      obtain ⟨x0, x1, x2, x3⟩ := own_cell4 hown3.out hkX
      have hfx := fun j => hown3.out.frozenAt j
      have hset4 := Lib.hid (own_set4 hown3.out ⟨l[k].ch, Em.held l[k].n, l[k].o, l[k].c⟩ hkX)
      have hbel4 := Lib.hid (below_set4 (j := k * 4) hB3 (Nat.le_refl w.heap.size) (.int .u8 (l[k].ch.toNat : Int)) (.int .i64 (Em.held l[k].n : Nat)) (.bool l[k].o) (.bool l[k].c))
      clear hloc3 hown3 hB3
      go_wp2_with fail
      go_roundw
      case rel => exact ⟨k + 1, hkl, by go_num, Lib.hid (by rw [← hXs.out]; exact hset4.out), hbel4.out⟩
      case measure => simp [intOf]; omega
    · have hke : k = l.length := by omega
      subst hke
      rw [mixH_all] at hown
      go_wp2_with fail
      go_ret
      exact ⟨⟨_, rfl, hown.out⟩, hb⟩
end Go.Proofs.YtboeaofcioolnaaDoor
end

section
namespace Go.Proofs.YtboeaofcioolnaaDoor
open Go.RowKit
attribute [local go_sem] canOp readsAs readUpon

theorem own_int {w : World} {B g n c : Nat} {E : TypeId} {L : List Nat} (h : w.ownsRow B E 1 (.slice (some ⟨g, 0, none⟩) n c) n (lcells L)) {k : Nat} (hk : k < L.length) : w.cell? ⟨g, k, none⟩ = some (.int .i64 (L[k] : Int)) := by
  have := h.cells (g := g) rfl k _ (lcells_at hk)
  rwa [show (⟨g, 0, none⟩ : Addr).add k = ⟨g, k, none⟩ from by unfold Addr.add; split <;> simp_all] at this
/-- what is told of the nearest one -/
def NearV (O : List Nat) (l : List Em.R) (c : Nat) : Option Nat → Prop
  | some i => ∃ hi : i < O.length, Em.fitP (Em.get l O[i]) (Em.get l c) = true ∧ ∀ k (hk : k < O.length), i < k → Em.fitP (Em.get l O[k]) (Em.get l c) = false
  | none => ∀ j ∈ O, Em.fitP (Em.get l j) (Em.get l c) = false
def nearV : Option Nat → Value
  | some i => .tuple #[.int .i64 (i : Int), .bool true]
  | none => .tuple #[.int .i64 0, .bool false]

/-- the search stands at a place -/
def NearAt (O : List Nat) (l : List Em.R) (c : Nat) (v : Value) : Prop := ∃ (z : Int) (m : Nat), v = .int .i64 z ∧ z = (m : Int) - 1 ∧ m ≤ O.length ∧ Hid (∀ k (hk : k < O.length), m ≤ k → Em.fitP (Em.get l O[k]) (Em.get l c) = false)

set_option maxHeartbeats 4000000 in
set_option maxRecDepth 100000 in
theorem pnearest_any {B b : Nat} {x : Option Part} {v : Vs} {l : List Em.R} {L O N : List Nat} {P : List (Nat × Nat × Nat)} {w : World} (hM : PM B b x v l L O N P w) (c : Nat) (hc : c < l.length) (hl : l.length ≤ 1000000) (hH : Em.Held l)
    (hO : O.length ≤ 1000000) (hOl : ∀ j ∈ O, j < l.length) (hs : O.Pairwise (· < ·)) (hNl : N.length = 1536) (hN : ∀ j ∈ O, j < Em.lf N (Em.sortN (Em.get l c)) → Em.fitP (Em.get l j) (Em.get l c) = false) :
    Calls Tryd.prog 34 #[.pointer (some ⟨b, 0, none⟩), .int .i64 (c : Int)] w fun e w' => ∃ r, e = .returned (nearV r) ∧ NearV O l c r ∧ Below B w w' ∧ PM B b x v l L O (if r = none then N.set (Em.sortN (Em.get l c)) c else N) P w' := by
  obtain ⟨hB, hbw, hfz, m0, m1, m2, m3, m4⟩ := hM.blk
  obtain ⟨gr, cr, hvr, hcr, hBr, hgr⟩ := own_some hM.rowr (by omega)
  obtain ⟨gn, cn, hvn, hcn, hBn, hgn⟩ := own_some hM.rown (by omega)
  obtain ⟨A, co, hvo, hco⟩ := own_shape hM.rowo
  have hgc : Em.get l c = l[c] := Em.get_at hc
  have q1 := fun w => psort_any l[c] (hH _ (List.getElem_mem hc)) w
  obtain ⟨s, hsd⟩ : ∃ s, s = Em.sortN (Em.get l c) := ⟨_, rfl⟩
  have hs6 : s < 1536 := by rw [hsd]; exact Em.sortN_lt _
  rw [← hgc, ← hsd] at q1
  have hM0 := Lib.hid hM
  have hvn0 := Lib.hid hvn
  have hvo0 := Lib.hid hvo
  have hvr0 := Lib.hid hvr
  have hrr := hM.rowr
  rw [hvr] at hrr
  obtain ⟨x0, x1, x2, x3⟩ := own_cell4 hrr hc
  rw [hvr] at m0
  rw [hvn] at m3
  rw [hvo] at m2
  unfold aval at q1
  rw [hgc] at q1
  have hbl := Lib.hid (ext_alloc w (.cells #[.int .u8 (l[c].ch.toNat : Int), .int .i64 l[c].n, .bool l[c].o, .bool l[c].c] 29))
  have hloc := Lib.hid (heap_alloc_new w (.cells #[.int .u8 (l[c].ch.toNat : Int), .int .i64 l[c].n, .bool l[c].o, .bool l[c].c] 29))
  have hH0 := Lib.hid hH
  replace hs := Lib.hid hs
  replace hN := Lib.hid hN
  replace hOl := Lib.hid hOl
  replace hsd := Lib.hid hsd
  replace hgc := Lib.hid hgc
  clear hrr hM m1 m4 hvr hvn hvo hH
  go_enter Tryd.func34, Tryd.ntmps34
  go_wp2_with fail
  refine (q1 _).mono ?_
  rintro e w1 ⟨rfl, hb1⟩
  have hloc1 := (keep hloc.out hb1).1
  have hw1 := ext_trans hbl.out hb1
  have hM1 := hM0.out.ext hw1
  clear hM0 hbl hloc hb1 q1 m0 m2 m3 x0 x1 x2 x3 hfz
  have hz1 := hw1.size
  obtain ⟨_, hbw1, _, m0, m1, m2, m3, m4⟩ := hM1.blk
  rw [hvr0.out] at m0
  rw [hvn0.out] at m3
  rw [hvo0.out] at m2
  replace hw1 := Lib.hid hw1
  replace hM1 := Lib.hid hM1
  replace hloc1 := Lib.hid hloc1
  clear m1 m4
  go_wp2_with fail
  go_loopw [8] (fun u wr => NearAt O l c u ∧ Hid (Below w1.heap.size w1 wr)) (fun u _ => (intOf u + 1).toNat)
  case atStart => exact ⟨⟨(O.length : Int) - 1, O.length, rfl, rfl, Nat.le_refl _, Lib.hid fun k hk h => by omega⟩, Lib.hid (Below.refl _ _)⟩
  case round =>
    obtain ⟨⟨z, m, rfl, hz, hm, hno⟩, hq⟩ := hrel
    clear m0 m2 m3
    have hMr := hM1.out.ext hq.out
    obtain ⟨_, hbwr, _, m0, m1, m2, m3, m4⟩ := hMr.blk
    rw [hvr0.out] at m0
    rw [hvn0.out] at m3
    rw [hvo0.out] at m2
    have hnn := hMr.rown
    rw [hvn0.out] at hnn
    have n0 := own_int hnn (k := s) (by omega)
    have nf := fun n => (own_below hnn (below_drewN (Below.refl wr.heap.size wr) n)).frozenAt s
    have hlfs : Em.lf N s = N[s]'(by omega) := Em.lf_at (by omega)
    have hstN := Lib.hid (fun n => (hMr.ext (below_drewN (Below.refl wr.heap.size wr) n)).setN hvn0.out s c)
    have hwr := ext_trans hw1.out (show Below w1.heap.size w1 wr from hq.out)
    have hstB := Lib.hid (fun n => (below_drewN (hwr.mono (Nat.le_trans hB (Nat.le_of_lt hbw))) n).setCell (p := ⟨gn, s, none⟩) hBn (.int .i64 (c : Int)))
    have hBr0 := Lib.hid (hwr.mono (Nat.le_trans hB (Nat.le_of_lt hbw)))
    have hgnr : gn < wr.heap.size := Nat.lt_of_lt_of_le hgn hwr.size
    replace hMr := Lib.hid hMr
    clear hnn hwr m1 m4
    rcases Nat.eq_zero_or_pos m with rfl | hmp
    · obtain rfl : z = -1 := by omega
      have hall : Hid (NearV O l c none) := Lib.hid fun j hj => by
        obtain ⟨k, hk, rfl⟩ := List.getElem_of_mem hj
        exact hno.out k hk (Nat.zero_le _)
      clear hno hz hN m2 hlfs
      go_wp2_with fail
      go_quiet (fail)
      go_wp2_with fail
      go_ret2
      exact ⟨none, rfl, hall.out, hstB.out nq, by rw [if_pos rfl, ← hsd.out]; exact hstN.out nq⟩
    · obtain ⟨j, rfl⟩ : ∃ j, m = j + 1 := ⟨m - 1, by omega⟩
      obtain rfl : z = (j : Int) := by omega
      have hjO : j < O.length := by omega
      have hoo := hMr.out.rowo
      rw [hvo0.out] at hoo
      obtain ⟨go, rfl⟩ : ∃ g, A = some ⟨g, 0, none⟩ := by
        rcases hoo.2 with ⟨hv, h0⟩ | ⟨g, cap, cur, hv, _⟩
        · omega
        · injection hv with h1 _ _; exact ⟨g, h1⟩
      have o0 := own_int hoo hjO
      clear hoo
      obtain ⟨oj, hoj⟩ : ∃ o, o = O[j] := ⟨_, rfl⟩
      rw [← hoj] at o0
      have hojl : oj < l.length := by rw [hoj]; exact hOl.out _ (List.getElem_mem hjO)
      by_cases hge : N[s] ≤ oj
      · have d0 : decide ((N[s] : Int) ≤ (oj : Int)) = true := decide_eq_true (by omega)
        have d1 : decide (N[s] ≤ oj) = true := decide_eq_true hge
        have hrr := hMr.out.rowr
        rw [hvr0.out] at hrr
        obtain ⟨y0, y1, y2, y3⟩ := own_cell4 hrr hojl
        clear hrr
        obtain ⟨z0, z1, z2, z3⟩ := four (keep hloc1.out hq.out).1
        have hgo : Em.get l oj = l[oj] := Em.get_at hojl
        have q := fun w => pfit_any l[oj] l[c] (hH0.out _ (List.getElem_mem hojl)) (hH0.out _ (List.getElem_mem hc)) w
        obtain ⟨F, hF⟩ : ∃ F, F = Em.fitP l[oj] l[c] := ⟨_, rfl⟩
        have hFO : Hid (F = Em.fitP (Em.get l O[j]) (Em.get l c)) := Lib.hid (by rw [← hoj, hF, hgo, hgc.out])
        rw [← hF] at q
        unfold aval at q
        clear hF hgo hz hN hlfs hge
        replace hoj := Lib.hid hoj
        generalize N[s] = ns at *
        have hloc2 := (keep hloc1.out hq.out).1
        have hSd : Hid (∀ n u, Below (wr.drewN n).heap.size (wr.drewN n) u → (u.cell? ⟨b, 0, none⟩ = some (.slice (some ⟨gr, 0, none⟩) l.length cr) ∧ u.cell? ⟨b, 2, none⟩ = some (.slice (some ⟨go, 0, none⟩) O.length co) ∧ u.cell? ⟨go, j, none⟩ = some (.int .i64 (oj : Int))) ∧
            (u.cell? ⟨gr, oj * 4, none⟩ = some (.int .u8 (l[oj].ch.toNat : Int)) ∧ u.cell? ⟨gr, oj * 4 + 1, none⟩ = some (.int .i64 l[oj].n) ∧ u.cell? ⟨gr, oj * 4 + 2, none⟩ = some (.bool l[oj].o) ∧ u.cell? ⟨gr, oj * 4 + 3, none⟩ = some (.bool l[oj].c)) ∧
            (u.cell? ⟨w.heap.size, 0, none⟩ = some (.int .u8 (l[c].ch.toNat : Int)) ∧ u.cell? ⟨w.heap.size, 1, none⟩ = some (.int .i64 l[c].n) ∧ u.cell? ⟨w.heap.size, 2, none⟩ = some (.bool l[c].o) ∧ u.cell? ⟨w.heap.size, 3, none⟩ = some (.bool l[c].c))) := Lib.hid fun n u hu => by
          have hu2 : Below wr.heap.size wr u := ext_trans (below_drewN (Below.refl wr.heap.size wr) n) hu
          have hMu := hMr.out.ext hu2
          obtain ⟨_, _, _, m0, _, m2, _, _⟩ := hMu.blk
          have hrr := hMu.rowr
          have hoo := hMu.rowo
          rw [hvr0.out] at m0 hrr
          rw [hvo0.out] at m2 hoo
          exact ⟨⟨m0, m2, by rw [hoj.out]; exact own_int hoo hjO⟩, own_cell4 hrr hojl, four (keep hloc2 hu2).1⟩
        have hBr1 := Lib.hid (fun (n : Nat) => below_drewN hBr0.out n)
        have hMr1 := Lib.hid (fun (n : Nat) => hMr.out.ext (below_drewN (Below.refl wr.heap.size wr) n))
        clear hloc2 hstN hstB
        go_wp2_with fail
        go_quiet (fail)
        go_wp2_with fail
        clear m0 m2 m3 n0 o0 y0 y1 y2 y3 z0 z1 z2 z3
        replace hSd := Lib.hid (hSd.out nq)
        replace hBr1 := Lib.hid (hBr1.out nq)
        replace hMr1 := Lib.hid (hMr1.out nq)
        have hbn : b < (wr.drewN nq).heap.size := hbwr
        have hnr : w1.heap.size ≤ (wr.drewN nq).heap.size := hq.out.size
        have hqn := Lib.hid (below_drewN hq.out nq)
        generalize wr.drewN nq = wd at *
        have hS : Ext wd wd.drew := ext_drew wd
        obtain ⟨⟨m0, m2, o0⟩, ⟨y0, y1, y2, y3⟩, ⟨z0, z1, z2, z3⟩⟩ := hSd.out wd.drew hS
        refine wp_region_can ((true, 0) :: (true, 1) :: (true, 2) :: (true, 3) :: (true, 4) :: (true, 5) :: (true, 6) :: (true, 7) :: (true, 8) :: (true, 9) :: (true, 10) :: (true, 11) :: (true, 12) :: (true, 13) :: (false, 14) :: []) (Ext wd) hS (by kernel_rfl) (by kernel_rfl) (by kernel_rfl) (fun _ _ d _ _ h => by cases d <;> exact h) ?_
        iterate 14 (first | refine wpCan_move rfl ?_ | (refine wpCan_cons rfl ?_; intro K hK; go_simp; first | (refine hK _ _ _ ?_; clear hK K) | (refine ⟨fun w' hw' => by obtain ⟨⟨m0, m2, o0⟩, ⟨y0, y1, y2, y3⟩, ⟨z0, z1, z2, z3⟩⟩ := hSd.out w' hw'; go_simp, hK _ _ _ ?_⟩; clear hK K)))
        refine wpCan_cons rfl ?_
        intro K hK
        go_simp
        refine (q _).mono ?_
        rintro e w4 ⟨rfl, hb4⟩
        replace hb4 := ext_trans (ext_drew wd) hb4
        refine can_ext hb4 (hK _ _ _ ?_)
        clear hK K q
        refine wpCan_nil ?_
        have hB4 := Lib.hid (hBr1.out.trans (hb4.mono (Nat.le_trans (Nat.le_trans hB (Nat.le_of_lt hbw)) (Nat.le_trans hz1 hnr))))
        have hM4 := Lib.hid (hMr1.out.ext hb4)
        have hq4 := Lib.hid (show Below w1.heap.size w1 w4 from hqn.out.trans (hb4.mono hnr))
        clear hMr1 hBr1 hb4 m0 m2 o0 y0 y1 y2 y3 z0 z1 z2 z3 hSd hS
        cases F with
        | true =>
          have hsome : Hid (NearV O l c (some j)) := Lib.hid ⟨hjO, hFO.out.symm, fun k hk h => hno.out k hk h⟩
          go_wp2_with fail
          go_ret2
          exact ⟨some j, rfl, hsome.out, hB4.out, hM4.out⟩
        | false =>
          have hno2 : Hid (∀ k (hk : k < O.length), j ≤ k → Em.fitP (Em.get l O[k]) (Em.get l c) = false) := Lib.hid fun k hk h => by
            rcases Nat.lt_or_eq_of_le h with h1 | h1
            · exact hno.out k hk h1
            · subst h1; exact hFO.out.symm
          go_wp2_with fail
          go_roundw
          case rel => exact ⟨⟨(j : Int) - 1, j, rfl, rfl, by omega, hno2⟩, hq4⟩
          case measure => simp [intOf] <;> omega
      · have d0 : decide ((N[s] : Int) ≤ (oj : Int)) = false := decide_eq_false (by omega)
        have d1 : decide (N[s] ≤ oj) = false := decide_eq_false hge
        have hall : Hid (NearV O l c none) := Lib.hid fun i hi => by
          obtain ⟨k, hk, rfl⟩ := List.getElem_of_mem hi
          rcases Nat.lt_or_ge j k with h1 | h1
          · exact hno.out k hk h1
          · refine hN.out _ hi ?_
            rw [← hsd.out, hlfs]
            have : O[k] ≤ O[j] := by
              rcases Nat.lt_or_eq_of_le h1 with h2 | h2
              · exact Nat.le_of_lt (List.pairwise_iff_getElem.1 hs.out k j hk hjO h2)
              · subst h2; exact Nat.le_refl _
            omega
        clear hno hz hN hlfs hoj hge
        generalize N[s] = ns at *
        go_wp2_with fail
        go_quiet (fail)
        go_wp2_with fail
        go_ret2
        exact ⟨none, rfl, hall.out, hstB.out nq, by rw [if_pos rfl, ← hsd.out]; exact hstN.out nq⟩
end Go.Proofs.YtboeaofcioolnaaDoor
end

section
namespace Go.Proofs.YtboeaofcioolnaaDoor
open Go.RowKit

theorem ppairEI : EI Tryd.prog 37 41 3 24 := EI.mk' Tryd.underlying37 (z := .agg #[.int .i64 0, .int .i64 0, .int .i64 0]) (by kernel_rfl) rfl (by omega)
theorem pintEI : EI Tryd.prog 31 3 1 8 := EI.mk' Tryd.underlying31 (z := .int .i64 0) (by kernel_rfl) rfl (by omega)
theorem cut_int (g n c hi : Nat) {v : Int} (hv : v = (hi : Int)) (h2 : hi ≤ c) (w : World) :
    (Instr.slice 31 (.slice (some ⟨g, 0, none⟩) n c) none (some (.int .i64 v)) none).run Tryd.prog w = .ok (.slice (some ⟨g, 0, none⟩) hi c) w :=
  run_short (by kernel_rfl) 1 (fun w => by kernel_rfl) g n c hi hv h2 w
/-- the struct stays where a row of its own grows -/
theorem PM.atP {B b : Nat} {x : Option Part} {v : Vs} {l : List Em.R} {L O N : List Nat} {P : List (Nat × Nat × Nat)} {w u : World} (h : PM B b x v l L O N P w) (hg : w.grownBy u v.p.ownBlock) : (∀ j, u.frozen? ⟨b, j, none⟩ = false) ∧ u.cell? ⟨b, 4, none⟩ = some v.p := by
  obtain ⟨h1, h2, h3⟩ := Hp.base h (k := 0) rfl
  have h4 : u.heap[b]? = _ := (hg.block b h2 (fun e => by
    have := h.apart 5 0 _ _ b rfl rfl e.symm rfl
    cases this)).trans h3
  exact ⟨blk_free h4, blk_cell h4 4⟩
theorem PM.atO {B b : Nat} {x : Option Part} {v : Vs} {l : List Em.R} {L O N : List Nat} {P : List (Nat × Nat × Nat)} {w u : World} (h : PM B b x v l L O N P w) (hg : w.grownBy u v.o.ownBlock) : (∀ j, u.frozen? ⟨b, j, none⟩ = false) ∧ u.cell? ⟨b, 2, none⟩ = some v.o := by
  obtain ⟨h1, h2, h3⟩ := Hp.base h (k := 0) rfl
  have h4 : u.heap[b]? = _ := (hg.block b h2 (fun e => by
    have := h.apart 3 0 _ _ b rfl rfl e.symm rfl
    cases this)).trans h3
  exact ⟨blk_free h4, blk_cell h4 2⟩
/-- fewer are open -/
theorem PM.cutO {B b : Nat} {x : Option Part} {v : Vs} {l : List Em.R} {L O N : List Nat} {P : List (Nat × Nat × Nat)} {w : World} (h : PM B b x v l L O N P w) {g c : Nat} (hv : v.o = .slice (some ⟨g, 0, none⟩) O.length c) {k : Nat} (hk : k ≤ O.length) :
    PM B b x ⟨v.r, v.l, .slice (some ⟨g, 0, none⟩) k c, v.n, v.p⟩ l L (O.take k) N P (w.setCell ⟨b, 2, none⟩ (.slice (some ⟨g, 0, none⟩) k c)) := by
  have ho := h.rowo
  rw [hv] at ho
  refine h.newO (World.grownBy.refl w _) (own_take ho hk rfl) (fun g' hg' => .inl ?_)
  rw [hv]; exact hg'

set_option maxHeartbeats 8000000 in
set_option maxRecDepth 100000 in
theorem ppair_any {B b : Nat} {x : Option Part} {v : Vs} {l : List Em.R} {L O N : List Nat} {P : List (Nat × Nat × Nat)} {w : World} (hM : PM B b x v l L O N P w) (i c oj s lo lc : Nat) (hi : i < O.length) (hoj : O[i] = oj) (hjL : oj < L.length) (hcL : c < L.length) (hne : oj ≠ c)
    (hlo : L[oj] = lo) (hlc : L[c] = lc) (hlo1 : 1 ≤ lo ∧ lo ≤ 100) (hlc1 : 1 ≤ lc ∧ lc ≤ 100) (hL : L.length ≤ 1000000) (hO : O.length ≤ 1000000) (hP : P.length ≤ 1000000000)
    (d1 : Bool) (d2 : Bool) (hd1 : decide (2 ≤ lo) = d1) (hd2 : decide (2 ≤ lc) = d2) (hs : s = if (d1 && d2) = true then 2 else 1) :
    Calls Tryd.prog 35 #[.pointer (some ⟨b, 0, none⟩), .int .i64 (i : Int), .int .i64 (c : Int)] w fun e w' => e = .returned (.tuple #[]) ∧
      (∃ v', v'.l = v.l ∧ v'.r = v.r ∧ PM B b x v' l ((L.set oj (lo - s)).set c (lc - s)) (Em.pairO O i (lo - s)) N (P ++ [(oj, c, s)]) w') ∧ Below B w w' := by
  have hs2 : 1 ≤ s ∧ s ≤ 2 ∧ s ≤ lo ∧ s ≤ lc ∧ (s : Int) = (if (d1 && d2) = true then 2 else 1) := by
    have h1 : d1 = true → 2 ≤ lo := fun h => of_decide_eq_true (hd1.trans h)
    have h2 : d2 = true → 2 ≤ lc := fun h => of_decide_eq_true (hd2.trans h)
    cases d1 <;> cases d2 <;> simp_all
  obtain ⟨hs0, hs1, hsl, hsc, hsi⟩ := hs2
  have e1 : decide ((2 : Int) ≤ (lo : Int)) = d1 := by rw [← hd1]; exact decide_eq_decide.2 (by omega)
  have e2 : decide ((2 : Int) ≤ (lc : Int)) = d2 := by rw [← hd2]; exact decide_eq_decide.2 (by omega)
  obtain ⟨ro, hro⟩ : ∃ r, r = lo - s := ⟨_, rfl⟩
  obtain ⟨rc, hrc⟩ : ∃ r, r = lc - s := ⟨_, rfl⟩
  obtain ⟨sz, hsz⟩ : ∃ z : Int, z = (s : Int) := ⟨_, rfl⟩
  have hro2 : (lo : Int) - sz = (ro : Int) := by omega
  have hrc2 : (lc : Int) - sz = (rc : Int) := by omega
  have hcase : (d1 = false ∧ sz = 1) ∨ (d1 = true ∧ d2 = false ∧ sz = 1) ∨ (d1 = true ∧ d2 = true ∧ sz = 2) := by
    rw [hsz, hsi]
    cases d1 <;> cases d2 <;> simp
  have hroz : ro ≤ 100 := by omega
  have hrcz : rc ≤ 100 := by omega
  obtain ⟨vr, vl, vo, vn, vp⟩ := v
  obtain ⟨hB, hbw, hfz, m0, m1, m2, m3, m4⟩ := hM.blk
  obtain ⟨gl, cl, hvl, hcl, hBl, hgl⟩ := own_some hM.rowl (by omega)
  obtain ⟨go, co, hvo, hco, hBo, hgo⟩ := own_some hM.rowo (by omega)
  obtain ⟨AP, cp, hvp, hcp⟩ := own_shape hM.rowp
  simp only at hvl hvo hvp m0 m1 m2 m3 m4
  subst hvl hvo hvp
  have hrl := hM.rowl
  have hro' := hM.rowo
  simp only at hrl hro'
  have o0 := own_int hro' hi
  rw [hoj] at o0
  have l0 := own_int hrl hjL
  rw [hlo] at l0
  have l1 := own_int hrl hcL
  rw [hlc] at l1
  have lf := fun j => hrl.frozenAt j
  have hM4 := Lib.hid (fun y : Nat => hM.setL (g := gl) (c := cl) rfl oj y)
  have hM5 := Lib.hid (fun y z : Nat => (hM.setL (g := gl) (c := cl) rfl oj y).setL (g := gl) (c := cl) (by rw [List.length_set]) c z)
  have hB4 := Lib.hid (fun y : Value => (Below.refl B w).setCell (p := ⟨gl, oj, none⟩) hBl y)
  replace hrl := Lib.hid hrl
  replace hro' := Lib.hid hro'
  replace hs := Lib.hid hs
  replace hro := Lib.hid hro
  replace hrc := Lib.hid hrc
  replace hsz := Lib.hid hsz
  replace hlo := Lib.hid hlo
  replace hlc := Lib.hid hlc
  replace hoj := Lib.hid hoj
  clear hM
  have hlob : (lo : Int) ≤ 100 := by omega
  have hlcb : (lc : Int) ≤ 100 := by omega
  have hzero : Hid (Em.pairO O i (lo - s) = if ro = 0 then O.take i else O.take (i + 1)) := Lib.hid (by rw [← hro.out]; rfl)
  have hpair : Hid (Em.pairO O i (lo - s) = if ro = 0 then O.take i else O.take (i + 1)) := hzero
  clear m0 m3 hd1 hd2 hs0 hsl hsc hsi hs1 hzero hs
  replace hpair := hpair
  rcases hcase with ⟨rfl, rfl⟩ | ⟨rfl, rfl, rfl⟩ | ⟨rfl, rfl, rfl⟩
  all_goals
    go_enter Tryd.func35, Tryd.ntmps35
    go_upto_region 5 with fail
    generalize hw4 : World.setCell w _ _ = w4
    have hM4' : PM B b x ⟨vr, .slice (some ⟨gl, 0, none⟩) L.length cl, .slice (some ⟨go, 0, none⟩) O.length co, vn, .slice AP P.length cp⟩ l (L.set oj ro) O N P w4 := by rw [← hw4]; exact hM4.out ro
    have hB4' : Below B w w4 := by rw [← hw4]; exact hB4.out _
    obtain ⟨_, hbw4, hfz4, _, m1', _, _, _⟩ := hM4'.blk
    have hrl4 := hM4'.rowl
    simp only [List.length_set] at m1' hrl4
    have l1' := own_int hrl4 (k := c) (by rw [List.length_set]; exact hcL)
    rw [List.getElem_set_ne hne, hlc.out] at l1'
    have lf' := fun j => hrl4.frozenAt j
    have hgl4 : gl < w4.heap.size := Nat.lt_of_lt_of_le hgl hB4'.size
    have hM5' := Lib.hid (hM4'.setL (g := gl) (c := cl) (by rw [List.length_set]) c rc)
    replace hB4' := Lib.hid hB4'
    replace hM4' := Lib.hid hM4'
    clear hw4 m1 m2 m4 o0 l0 l1 lf hM4 hM5 hrl4 hfz
    go_upto_region 6 with fail
    generalize hw5 : World.setCell w4 _ _ = w5
    have hM5 : PM B b x ⟨vr, .slice (some ⟨gl, 0, none⟩) L.length cl, .slice (some ⟨go, 0, none⟩) O.length co, vn, .slice AP P.length cp⟩ l ((L.set oj ro).set c rc) O N P w5 := by rw [← hw5]; exact hM5'.out
    have hB5 : Below B w w5 := by rw [← hw5]; exact hB4'.out.setCell (p := ⟨gl, c, none⟩) hBl _
    clear hw5 hM5' hB4' hM4' m1' l1' lf' hfz4 hbw4 hgl4
    obtain ⟨L2, hL2⟩ : ∃ L2, L2 = (L.set oj ro).set c rc := ⟨_, rfl⟩
    have hL2l : L2.length = L.length := by rw [hL2, List.length_set, List.length_set]
    have hL2o : L2[oj]'(by omega) = ro := by subst hL2; rw [List.getElem_set_ne (Ne.symm hne), List.getElem_set_self]
    rw [← hL2] at hM5
    obtain ⟨_, hbw5, hfz5, _, m1, m2, _, m4⟩ := hM5.blk
    simp only at m1 m2 m4
    have hBw5 := hB5.size
    replace hM5 := Lib.hid hM5
    replace hB5 := Lib.hid hB5
    replace hL2 := Lib.hid hL2
    replace hL2o := Lib.hid hL2o
    go_upto_region 7 with (at_builtin; refine wpList_app_two rfl (.tmp 57) (.tmp 62) rfl ppairEI rfl hM5.out.rowp rfl (by simp) rfl (by intro u hu; simp at hu; rcases hu with rfl | rfl | rfl <;> rfl) (by omega) (by omega) (by omega) ?_; intro vp7 w7 ho7 hg7 hb7 hat7; obtain ⟨A7, c7, rfl, hc7⟩ := own_shape ho7; obtain ⟨hfz7, m47⟩ := hM5.out.atP hg7.out; have hbw7 : b < w7.heap.size := Nat.lt_of_lt_of_le hbw5 hb7.size)
    generalize hw8 : World.setCell w7 _ _ = w8
    have hM8 : PM B b x ⟨vr, .slice (some ⟨gl, 0, none⟩) L.length cl, .slice (some ⟨go, 0, none⟩) O.length co, vn, .slice A7 (P.length + 1) c7⟩ l L2 O N (P ++ [(oj, c, s)]) w8 := by
      rw [← hw8]
      exact hM5.out.newP hg7.out (by simpa [pcells, pcell, ← hsz.out] using ho7) hat7.out
    have hB8 : Below B w w8 := by rw [← hw8]; exact (hB5.out.trans hb7).setCell (p := ⟨b, 4, none⟩) hB _
    clear hw8 hM5 hB5 ho7 hg7 hb7 hat7 hfz7 m47 hbw7 hfz5 m1 m2 m4 hbw5 hBw5
    obtain ⟨_, hbw8, hfz8, _, m1, m2, _, m4⟩ := hM8.blk
    simp only at m1 m2 m4
    have hcut := cut_int go O.length co (i + 1) (v := (i : Int) + 1) rfl (by omega)
    have hM9' := Lib.hid (hM8.cutO (g := go) (c := co) rfl (k := i + 1) (by omega))
    replace hM8 := Lib.hid hM8
    replace hB8 := Lib.hid hB8
    go_upto_region 8 with fail
    generalize hw9 : World.setCell w8 _ _ = w9
    have hM9 : PM B b x ⟨vr, .slice (some ⟨gl, 0, none⟩) L.length cl, .slice (some ⟨go, 0, none⟩) (i + 1) co, vn, .slice A7 (P.length + 1) c7⟩ l L2 (O.take (i + 1)) N (P ++ [(oj, c, s)]) w9 := by rw [← hw9]; exact hM9'.out
    have hB9 : Below B w w9 := by rw [← hw9]; exact hB8.out.setCell (p := ⟨b, 2, none⟩) hB _
    clear hw9 hM9' hM8 hB8 hfz8 m1 m2 m4 hbw8 hcut
    obtain ⟨_, hbw9, hfz9, _, m1, m2, _, m4⟩ := hM9.blk
    have hrl9 := hM9.rowl
    simp only [hL2l] at m1 m2 m4 hrl9
    have l9 := own_int hrl9 (k := oj) (by omega)
    rw [hL2o.out] at l9
    have hcut := cut_int go (i + 1) co i (v := (i : Int)) rfl (by omega)
    have hlen : (O.take (i + 1)).length = i + 1 := by rw [List.length_take]; omega
    have htt : (O.take (i + 1)).take i = O.take i := by rw [List.take_take]; congr 1; omega
    have hM10' := Lib.hid (hM9.cutO (g := go) (c := co) (by rw [hlen]) (k := i) (by omega))
    rw [htt] at hM10'
    have hgl9 : gl < w9.heap.size := Nat.lt_of_lt_of_le hgl hB9.size
    have hB10' := Lib.hid (hB9.setCell (p := ⟨b, 2, none⟩) hB (.slice (some ⟨go, 0, none⟩) i co))
    replace hM9 := Lib.hid hM9
    replace hB9 := Lib.hid hB9
    replace hlen := Lib.hid hlen
    replace htt := Lib.hid htt
    replace hrl9 := Lib.hid hrl9
    rw [hL2.out, hro.out, hrc.out] at hM9
    rw [hL2.out, hro.out, hrc.out] at hM10'
    rcases Nat.eq_zero_or_pos ro with hz | hz
    · have t0 : ((ro : Int) == 0) = true := by simpa using hz
      have hO2 : Hid (Em.pairO O i (lo - s) = O.take i) := Lib.hid (by rw [hpair.out, if_pos hz])
      clear hz
      go_wp2_with fail
      go_returns
      exact ⟨rfl, ⟨_, rfl, rfl, by rw [hO2.out]; exact hM10'.out⟩, hB10'.out⟩
    · have t0 : ((ro : Int) == 0) = false := by
        rw [beq_eq_false_iff_ne]; omega
      have hO2 : Hid (Em.pairO O i (lo - s) = O.take (i + 1)) := Lib.hid (by rw [hpair.out, if_neg (by omega)])
      clear hz
      go_wp2_with fail
      go_returns
      exact ⟨rfl, ⟨_, rfl, rfl, by rw [hO2.out]; exact hM9.out⟩, hB9.out⟩
end Go.Proofs.YtboeaofcioolnaaDoor
end

section
namespace Go.Proofs.YtboeaofcioolnaaDoor
open Go.RowKit

/-- while one run is closed -/
def CloseAt (B b : Nat) (x : Option Part) (l : List Em.R) (c gl cl : Nat) (fin : Em.St) (r0 : Value) (w wr : World) : Prop :=
  ∃ (v : Vs) (st : Em.St) (L O N : List Nat), Hid (v.r = r0) ∧ Hid (v.l = .slice (some ⟨gl, 0, none⟩) l.length cl) ∧ Hid (PM B b x v l L O N st.2 wr) ∧ Hid (Em.SimI l c st L O N) ∧ Hid (Em.inner l c st = fin) ∧ Hid (Below B w wr)

set_option maxHeartbeats 8000000 in
set_option maxRecDepth 100000 in
theorem pclose_any {B b : Nat} {x : Option Part} {v : Vs} {l : List Em.R} {L O N : List Nat} {w : World} (c : Nat) (st : Em.St) (hM : PM B b x v l L O N st.2 w) (hS : Em.SimI l c st L O N) (hc : c < l.length) (hl : l.length ≤ 1000000) (hH : Em.Held l) (hcc : (Em.get l c).c = true) :
    Calls Tryd.prog 21 #[.pointer (some ⟨b, 0, none⟩), .int .i64 (c : Int)] w fun e w' => e = .returned (.tuple #[]) ∧
      (∃ v', v'.r = v.r ∧ ∃ L' O' N', PM B b x v' l L' O' N' (Em.inner l c st).2 w' ∧ Em.SimI l c (Em.inner l c st) L' O' N') ∧ Below B w w' := by
  obtain ⟨gl, cl, hvl, hcl, hBl, hgl⟩ := own_some hM.rowl (by rw [hS.1.len]; omega)
  rw [hS.1.len] at hvl
  obtain ⟨fin, hfin⟩ : ∃ fin, fin = Em.inner l c st := ⟨_, rfl⟩
  rw [← hfin]
  obtain ⟨r0, hr0⟩ : ∃ r0, v.r = r0 := ⟨_, rfl⟩
  rw [hr0]
  have hIn : CloseAt B b x l c gl cl fin r0 w w := ⟨v, st, L, O, N, Lib.hid hr0, Lib.hid hvl, Lib.hid hM, Lib.hid hS, Lib.hid hfin.symm, Lib.hid (Below.refl _ _)⟩
  have hH0 := Lib.hid hH
  have hcc0 := Lib.hid hcc
  clear hM hS hfin hvl hH hcc hgl hr0
  go_enter Tryd.func21, Tryd.ntmps21
  go_wp2_with fail
  go_loopw [] (fun wr => CloseAt B b x l c gl cl fin r0 w wr) (fun wr => match wr.cell? ⟨gl, c, none⟩ with | some (.int _ n) => n.toNat | _ => 0)
  case atStart => exact hIn
  case round =>
    obtain ⟨v, st, L, O, N, hvr, hvl, hM, hS, hfi, hBw⟩ := hrel
    clear hIn
    have hLl := hS.out.1.len
    have hcL : c < L.length := by omega
    obtain ⟨hB, hbw, hfz, _, m1, _, _, _⟩ := hM.out.blk
    have hrl := hM.out.rowl
    rw [hvl.out] at m1 hrl
    rw [hLl] at hrl
    have hgl := (hrl.lt _ rfl).2
    have l0 := own_int hrl hcL
    obtain ⟨lc, hlc⟩ : ∃ n, n = L[c] := ⟨_, rfl⟩
    rw [← hlc] at l0
    have hlfc : Em.lf L c = lc := by rw [Em.lf_at hcL, hlc]
    have hlst : Em.lf st.1 c = lc := by rw [← hS.out.2, hlfc]
    have hbd := hS.out.1.bd c
    have hfew := hS.out.1.few
    have hOf := hS.out.1.open_few
    replace hlc := Lib.hid hlc
    replace hlfc := Lib.hid hlfc
    replace hlst := Lib.hid hlst
    replace hrl := Lib.hid hrl
    rw [hlst.out] at hbd hfew
    rcases Nat.eq_zero_or_pos lc with hz | hz
    · subst hz
      have hstop : Hid (Em.inner l c st = st) := Lib.hid (Em.inner_stop (by rw [hlst.out]; omega))
      have hfi2 : Hid (st = fin) := Lib.hid (hstop.out.symm.trans hfi.out)
      clear hfi hstop hfew
      go_wp2_with fail
      go_returns
      exact ⟨rfl, ⟨v, hvr.out, L, O, N, by rw [← hfi2.out]; exact hM.out, by rw [← hfi2.out]; exact hS.out⟩, hBw.out⟩
    · have t0 : decide ((0 : Int) < (lc : Int)) = true := decide_eq_true (by omega)
      have hmeas : Hid ((match wr.cell? ⟨gl, c, none⟩ with | some (.int _ n) => n.toNat | _ => 0) = lc) := Lib.hid (by rw [l0]; simp)
      have q := pnearest_any hM.out c hc hl hH0.out (by omega) (fun j hj => (hS.out.1.open_lt hj).2) hS.out.1.sorted hS.out.1.nlen (fun j hj h => hS.out.1.none _ j hj h)
      clear hrl
      go_wp2_with fail
      refine q.mono ?_
      rintro e w2 ⟨r, rfl, hr, hb2, hM2⟩
      replace hr := Lib.hid hr
      replace hM2 := Lib.hid hM2
      have hBw2 := Lib.hid (hBw.out.trans hb2)
      clear q hb2 m1 l0 hfz hbw
      cases r with
      | none =>
        have hstop : Hid (Em.inner l c st = st) := Lib.hid (Em.sim_stop hH0.out hS.out hcc0.out hr.out)
        have hfi2 : Hid (st = fin) := Lib.hid (hstop.out.symm.trans hfi.out)
        have hS2 := Lib.hid (Em.sim_none hS.out hr.out)
        have hM3 : Hid (PM B b x v l L O (N.set (Em.sortN (Em.get l c)) c) st.2 w2) := Lib.hid (by have := hM2.out; rwa [if_pos rfl] at this)
        clear hfi hstop hM2
        unfold nearV
        go_wp2_with fail
        go_returns
        exact ⟨rfl, ⟨v, hvr.out, L, O, _, by rw [← hfi2.out]; exact hM3.out, by rw [← hfi2.out]; exact hS2.out⟩, hBw2.out⟩
      | some i =>
        obtain ⟨hi, hf, hn⟩ := hr.out
        have hfound := Em.sim_found hH0.out hS.out hcc0.out hi hf hn
        have hmem := List.getElem_mem hi
        have hlt := hS.out.1.open_lt hmem
        have hm := (hS.out.1.mem _).1 hmem
        have hleft := hS.out.1.left _ hmem
        have hstep := Em.inner_step hcc0.out (by rw [hlst.out]; exact hz) hfound
        have hS3 := Em.sim_pair hS.out hc (by rw [hlst.out]; exact hz) hi rfl
        have hbdo := hS.out.1.bd O[i]
        have hM3 : PM B b x v l L O N st.2 w2 := by have := hM2.out; rwa [if_neg (by simp)] at this
        have hsz : Em.size st.1 O[i] c = if (decide (2 ≤ Em.lf L O[i]) && decide (2 ≤ lc)) = true then 2 else 1 := by
          unfold Em.size
          rw [hleft, hlst.out]
          by_cases h1 : 1 < Em.lf st.1 O[i] ∧ 1 < lc
          · rw [if_pos h1, if_pos (by rw [Bool.and_eq_true]; exact ⟨decide_eq_true h1.1, decide_eq_true h1.2⟩)]
          · rw [if_neg h1, if_neg]
            rw [Bool.and_eq_true]
            rintro ⟨h2, h3⟩
            exact h1 ⟨of_decide_eq_true h2, of_decide_eq_true h3⟩
        have q2 := ppair_any hM3 i c O[i] (Em.size st.1 O[i] c) (Em.lf L O[i]) lc hi rfl (by omega) hcL (by omega) (by rw [Em.lf_at (by omega)]) (hlc.out.symm) (by rw [hleft]; omega) (by omega) (by omega) (by omega) (by omega) _ _ rfl rfl hsz
        have hsp := Em.size_pos st.1 O[i] c
        rw [hstep] at hfi
        obtain ⟨sz, hszd⟩ : ∃ s, s = Em.size st.1 O[i] c := ⟨_, rfl⟩
        rw [← hszd] at q2 hS3 hfi hsp
        obtain ⟨oj, hoj⟩ : ∃ o, o = O[i] := ⟨_, rfl⟩
        rw [← hoj] at q2 hS3 hfi hlt
        replace hS3 := Lib.hid hS3
        clear hstep hfound hf hn hr hM2 hM3 hm hleft hbdo hmem hoj hszd hsz
        unfold nearV
        go_wp2_with fail
        refine q2.mono ?_
        rintro e w3 ⟨rfl, ⟨v3, hv3, hr3, hM4⟩, hb3⟩
        have hrl3 := hM4.rowl
        rw [hv3, hvl.out] at hrl3
        simp only [List.length_set, hLl] at hrl3
        have hpl : Em.pairL L oj c sz = (L.set oj (Em.lf L oj - sz)).set c (lc - sz) := by unfold Em.pairL; rw [hlfc.out]
        have l3 := own_int hrl3 (k := c) (by rw [List.length_set, List.length_set]; exact hcL)
        rw [List.getElem_set_self] at l3
        have hfin3 : Hid (CloseAt B b x l c gl cl fin r0 w w3) := Lib.hid ⟨v3, _, _, _, N, Lib.hid (hr3.trans hvr.out), Lib.hid (hv3.trans hvl.out), Lib.hid hM4, Lib.hid (by rw [← hpl]; exact hS3.out), hfi, Lib.hid (hBw2.out.trans hb3)⟩
        replace l3 := Lib.hid l3
        clear q2 hS3 hM4 hb3 hrl3 hpl hv3 hr3 hfi hM hS
        go_wp2_with fail
        go_roundw
        case rel => exact hfin3.out
        case measure => rw [hmeas.out, l3.out]; simp; omega
end Go.Proofs.YtboeaofcioolnaaDoor
end

section
namespace Go.Proofs.YtboeaofcioolnaaDoor
open Go.RowKit
attribute [local go_sem] canOp readsAs readUpon

section
variable {P : Program} {ops : Array Oper} {Q : Exit → Act → World → Prop}
theorem held_node {fuel : Nat} {listed : Array Bool} {a : Act} {w : World} (is : List Nat) (hr : Region.ready .any ops listed = is) (hne : is ≠ [])
    (h : ∀ i ∈ is, wpOp P ops Q i (fun a' w' => True ∧ wpAnyH P .any ops Q (fun _ => True) fuel (listed.setIfInBounds i true) a' w') a w) : wpAnyH P .any ops Q (fun _ => True) (fuel + 1) listed a w :=
  wpAnyH_all hr hne h
theorem held_op {fuel i : Nat} {listed : Array Bool} {a : Act} {w : World} {o : Oper} (ho : ops[i]? = some o) (hg : o.guard = none)
    (h : ∀ K : Act → World → Prop, (∀ a' w', wpAnyH P .any ops Q (fun _ => True) fuel (listed.setIfInBounds i true) a' w' → K a' w') → o.wp P a w K Q) :
    wpOp P ops Q i (fun a' w' => True ∧ wpAnyH P .any ops Q (fun _ => True) fuel (listed.setIfInBounds i true) a' w') a w := by
  unfold wpOp
  simp only [ho]
  rw [if_pos (by simp [Region.wanted, hg])]
  exact .inl (h _ fun _ _ hh => ⟨trivial, hh⟩)
theorem held_rd {fuel i : Nat} {listed : Array Bool} {a : Act} {w : World} {o : Oper} (v : Value) (ho : ops[i]? = some o) (hg : o.guard = none) (hs : Region.noSelect ops = true) (h1 : (Region.ready .any ops listed).contains i = true) (h2 : Region.free .any ops listed i = true)
    (hQ : ∀ c a d v w, Q (.panic c) (Act.put a d v) w → Q (.panic c) a w) (hv : ∀ w', (execOp a.eval o).run P w' = .ok (.value v) w') (k : wpAnyH P .any ops Q (fun _ => True) fuel (listed.setIfInBounds i true) (a.put o.dst v) w) :
    wpAnyH P .any ops Q (fun _ => True) (fuel + 1) listed a w :=
  wpAnyH_take ho hs h2 h1 (fun c a w => hQ c a o.dst v w) (.inl ⟨by simp [Region.wanted, hg], fun w' _ => hv w'⟩) trivial k
end

noncomputable def mops : Array Oper := match regionAt Tryd.f13 1 with | .region _ ops _ => ops | _ => #[]
def mk4 (o0 o1 o2 o4 : Option Part) : Nat → Option Part
  | 0 => o0
  | 1 => o1
  | 2 => o2
  | 4 => o4
  | _ => none
theorem mk4_ne {o0 o1 o2 o4 p0 p1 p2 p4 : Option Part} (h0 : o0 = p0) (h1 : o1 = p1) (h2 : o2 = p2) (h4 : o4 = p4) (j : Nat) : mk4 o0 o1 o2 o4 j = mk4 p0 p1 p2 p4 j := by subst h0 h1 h2 h4; rfl
theorem mk4_none (w : World) (B : Nat) : Hp w B (mk4 none none none none) := by
  have h : ∀ (k : Nat) (a : Part), mk4 none none none none k ≠ some a := by
    intro k a h
    match k with
    | 0 | 1 | 2 | 3 | 4 => cases h
    | _ + 5 => cases h
  exact ⟨fun k a ha => absurd ha (h k a), fun k k' a a' g h1 => absurd h1 (h k a)⟩
theorem zeros_int (n : Nat) : (madeCells #[.int .i64 0] (n * 1)).toList = lcells (List.replicate n 0) := by
  rw [Nat.mul_one, Go.toList_madeCells_one, lcells, List.map_replicate]; rfl
abbrev mzero : Array Value := #[.slice none 0 0, .slice none 0 0, .slice none 0 0, .slice none 0 0, .slice none 0 0]
abbrev prow (l : List Em.R) (v : Value) : Option Part := some (.row 29 4 v l.length (acells (Em.hold l)))
abbrev lrow (n : Nat) (v : Value) : Option Part := some (.row 3 1 v n (lcells (List.replicate n 0)))
abbrev mblk (b : Nat) : Option Part := some (.blk b mzero 59)
/-- all is made -/
theorem mk4_pm {l : List Em.R} {B b : Nat} {vr vl vn : Value} {w : World} (h : Hp w B (mk4 (mblk b) (prow l vr) (lrow l.length vl) (lrow 1536 vn))) :
    PM B b none ⟨vr, vl, .slice none 0 0, vn, .slice none 0 0⟩ (Em.hold l) (List.replicate l.length 0) [] (List.replicate 1536 0) []
      (((((w.setCell ⟨b, 0, none⟩ vr).setCell ⟨b, 1, none⟩ vl).setCell ⟨b, 2, none⟩ (.slice none 0 0)).setCell ⟨b, 3, none⟩ vn).setCell ⟨b, 4, none⟩ (.slice none 0 0)) := by
  have e1 : (Em.hold l).length = l.length := by simp [Em.hold]
  have h3 : Hp w B (pmm b mzero none (Em.hold l) vr (List.replicate l.length 0) vl [] (.slice none 0 0) (List.replicate 1536 0) vn [] (.slice none 0 0)) := by
    refine ⟨fun k a ha => ?_, fun k k' a a' g h1 h2 hg hg' => ?_⟩
    · match k with
      | 0 => exact h.holds 0 a ha
      | 1 => exact h.holds 1 a (by simpa only [pmm, mk4, e1] using ha)
      | 2 => exact h.holds 2 a (by simpa only [pmm, mk4, List.length_replicate] using ha)
      | 4 => exact h.holds 4 a (by simpa only [pmm, mk4, List.length_replicate] using ha)
      | 3 => cases ha; exact World.ownsRow_nil _ _ _ _
      | 5 => cases ha; exact World.ownsRow_nil _ _ _ _
      | 6 => cases ha
      | _ + 7 => cases ha
    · have key : ∀ (k : Nat) (a : Part) (g : Nat), pmm b mzero none (Em.hold l) vr (List.replicate l.length 0) vl [] (.slice none 0 0) (List.replicate 1536 0) vn [] (.slice none 0 0) k = some a → a.block = some g → mk4 (mblk b) (prow l vr) (lrow l.length vl) (lrow 1536 vn) k = some a := by
        intro k a g ha hb
        match k with
        | 0 => exact ha
        | 1 => simpa only [pmm, mk4, e1] using ha
        | 2 => simpa only [pmm, mk4, List.length_replicate] using ha
        | 4 => simpa only [pmm, mk4, List.length_replicate] using ha
        | 3 => cases ha; simp [Part.block, Value.ownBlock] at hb
        | 5 => cases ha; simp [Part.block, Value.ownBlock] at hb
        | 6 => cases ha
        | _ + 7 => cases ha
      exact h.apart k k' a a' g (key k a g h1 hg) (key k' a' g h2 hg') hg hg'
  have st : ∀ (w : World) (cs : Array Value) (j : Nat) (v : Value), Hp w B (pmm b cs none (Em.hold l) vr (List.replicate l.length 0) vl [] (.slice none 0 0) (List.replicate 1536 0) vn [] (.slice none 0 0)) →
      Hp (w.setCell ⟨b, j, none⟩ v) B (pmm b (cs.setIfInBounds j v) none (Em.hold l) vr (List.replicate l.length 0) vl [] (.slice none 0 0) (List.replicate 1536 0) vn [] (.slice none 0 0)) := by
    intro w cs j v h
    refine Hp.store (k := 0) (cs := cs) (t := 59) h rfl ?_ rfl
    intro j hj
    match j with
    | 0 => exact absurd rfl hj
    | 1 | 2 | 3 | 4 | 5 | 6 => rfl
    | _ + 7 => rfl
  exact st _ _ 4 _ (st _ _ 3 _ (st _ _ 2 _ (st _ _ 1 _ (st _ _ 0 _ h3))))
/-- what is asked behind the beginning -/
def StartQ (l : List Em.R) (A : Option Addr) (c : Nat) (w0 : World) (Q : Exit → Act → World → Prop) : Prop :=
  ∀ (b : Nat) (v : Vs) (v12 : Value) (wq : World), PM w0.heap.size b none v (Em.hold l) (List.replicate l.length 0) [] (List.replicate 1536 0) [] wq → Below w0.heap.size w0 wq → Q .normal ⟨(.slice A l.length c :: undef :: .slice none 0 0 :: .pointer (some ⟨b, 0, none⟩) :: undef :: undef :: .slice A l.length c :: v.r :: .slice A l.length c :: .int .i64 (l.length : Int) :: v.l :: v.n :: v12 :: undef :: undef :: undef :: undef :: undef :: undef :: undef :: undef :: undef :: undef :: undef :: undef :: undef :: undef :: undef :: undef :: undef :: undef :: undef :: undef :: undef :: undef :: undef :: undef :: undef :: undef :: undef :: undef :: undef :: undef :: undef :: undef :: undef :: undef :: undef :: undef :: undef :: []).toArray, []⟩ wq
abbrev PanQ (Q : Exit → Act → World → Prop) : Prop := ∀ c a d v w, Q (.panic c) (Act.put a d v) w → Q (.panic c) a w

set_option maxHeartbeats 2000000 in
set_option maxRecDepth 100000 in
theorem nd_1111s {l : List Em.R} {A : Option Addr} {c : Nat} {w0 w : World} {Q : Exit → Act → World → Prop} {vr : Value} {vl : Value} {vn : Value} {b : Nat} (_hpan : PanQ Q) (hq : StartQ l A c w0 Q) (_hR : Row w0 w0.heap.size 4 A l.length (acells l)) (_hl : l.length ≤ 1000000) (hb : Below w0.heap.size w0 w)
    (hH : Hp w w0.heap.size (mk4 (mblk b) (prow l vr) (lrow l.length vl) (lrow 1536 vn))) : wpAnyH Tryd.prog .any mops Q (fun _ => True) 1 #[true, true, true, true, true, true, true, true, false] ⟨(.slice A l.length c :: undef :: .slice none 0 0 :: .pointer (some ⟨b, 0, none⟩) :: undef :: undef :: .slice A l.length c :: vr :: .slice A l.length c :: .int .i64 (l.length : Int) :: vl :: vn :: (.agg #[vr, vl, .slice none 0 0, vn, .slice none 0 0]) :: undef :: undef :: undef :: undef :: undef :: undef :: undef :: undef :: undef :: undef :: undef :: undef :: undef :: undef :: undef :: undef :: undef :: undef :: undef :: undef :: undef :: undef :: undef :: undef :: undef :: undef :: undef :: undef :: undef :: undef :: undef :: undef :: undef :: undef :: undef :: undef :: undef :: []).toArray, []⟩ w := by
  replace hq := Lib.hid hq
  obtain ⟨A1, c1, rfl, _⟩ := own_shape (Hp.own hH (k := 1) rfl)
  obtain ⟨A2, c2, rfl, _⟩ := own_shape (Hp.own hH (k := 2) rfl)
  obtain ⟨A4, c4, rfl, _⟩ := own_shape (Hp.own hH (k := 4) rfl)
  obtain ⟨hB, hbw, hblk⟩ := Hp.base hH (k := 0) rfl
  have z0 := blk_cell hblk 0
  have z1 := blk_cell hblk 1
  have z2 := blk_cell hblk 2
  have z3 := blk_cell hblk 3
  have z4 := blk_cell hblk 4
  have hfz := blk_free hblk
  have hP := Lib.hid (mk4_pm hH)
  have hB2 := Lib.hid (((((hb.setCell (p := ⟨b, 0, none⟩) hB (.slice A1 l.length c1)).setCell (p := ⟨b, 1, none⟩) hB (.slice A2 l.length c2)).setCell (p := ⟨b, 2, none⟩) hB (.slice none 0 0)).setCell (p := ⟨b, 3, none⟩) hB (.slice A4 1536 c4)).setCell (p := ⟨b, 4, none⟩) hB (.slice none 0 0))
  clear hblk hH
  refine held_node [8] (by kernel_rfl) (by simp) ?_
  intro i hi
  obtain rfl : i = 8 := by simpa using hi
  refine held_op (o := ⟨none, .store 59 (.tmp 3) (.tmp 12), _, _, _, none⟩) rfl rfl ?_
  intro K hK
  go_simp
  refine hK _ _ (wpAnyH_done (by kernel_rfl) ?_ _)
  exact hq.out b ⟨_, _, _, _, _⟩ _ _ hP.out hB2.out

set_option maxHeartbeats 2000000 in
set_option maxRecDepth 100000 in
theorem nd_1111 {l : List Em.R} {A : Option Addr} {c : Nat} {w0 w : World} {Q : Exit → Act → World → Prop} {vr : Value} {vl : Value} {vn : Value} {b : Nat} (hpan : PanQ Q) (hq : StartQ l A c w0 Q) (hR : Row w0 w0.heap.size 4 A l.length (acells l)) (hl : l.length ≤ 1000000) (hb : Below w0.heap.size w0 w)
    (hH : Hp w w0.heap.size (mk4 (mblk b) (prow l vr) (lrow l.length vl) (lrow 1536 vn))) : wpAnyH Tryd.prog .any mops Q (fun _ => True) 2 #[true, true, true, true, true, true, false, true, false] ⟨(.slice A l.length c :: undef :: .slice none 0 0 :: .pointer (some ⟨b, 0, none⟩) :: undef :: undef :: .slice A l.length c :: vr :: .slice A l.length c :: .int .i64 (l.length : Int) :: vl :: vn :: undef :: undef :: undef :: undef :: undef :: undef :: undef :: undef :: undef :: undef :: undef :: undef :: undef :: undef :: undef :: undef :: undef :: undef :: undef :: undef :: undef :: undef :: undef :: undef :: undef :: undef :: undef :: undef :: undef :: undef :: undef :: undef :: undef :: undef :: undef :: undef :: undef :: undef :: []).toArray, []⟩ w := by
  obtain ⟨A1, c1, rfl, _⟩ := own_shape (Hp.own hH (k := 1) rfl)
  obtain ⟨A2, c2, rfl, _⟩ := own_shape (Hp.own hH (k := 2) rfl)
  obtain ⟨A4, c4, rfl, _⟩ := own_shape (Hp.own hH (k := 4) rfl)
  refine held_rd (i := 6) (o := ⟨some 12, .build 59 #[(0, .tmp 7), (1, .tmp 10), (3, .tmp 11)], _, _, _, none⟩) (.agg #[.slice A1 l.length c1, .slice A2 l.length c2, .slice none 0 0, .slice A4 1536 c4, .slice none 0 0]) rfl rfl (by kernel_rfl) (by kernel_rfl) (by kernel_rfl) hpan (fun w' => by go_simp) ?_
  exact nd_1111s hpan hq hR hl hb hH

set_option maxHeartbeats 2000000 in
set_option maxRecDepth 100000 in
theorem nd_1110s {l : List Em.R} {A : Option Addr} {c : Nat} {w0 w : World} {Q : Exit → Act → World → Prop} {vr : Value} {vl : Value} {vn : Value} (hpan : PanQ Q) (hq : StartQ l A c w0 Q) (hR : Row w0 w0.heap.size 4 A l.length (acells l)) (hl : l.length ≤ 1000000) (hb : Below w0.heap.size w0 w)
    (hH : Hp w w0.heap.size (mk4 none (prow l vr) (lrow l.length vl) (lrow 1536 vn))) : wpAnyH Tryd.prog .any mops Q (fun _ => True) 2 #[true, true, true, true, true, true, true, false, false] ⟨(.slice A l.length c :: undef :: .slice none 0 0 :: undef :: undef :: undef :: .slice A l.length c :: vr :: .slice A l.length c :: .int .i64 (l.length : Int) :: vl :: vn :: (.agg #[vr, vl, .slice none 0 0, vn, .slice none 0 0]) :: undef :: undef :: undef :: undef :: undef :: undef :: undef :: undef :: undef :: undef :: undef :: undef :: undef :: undef :: undef :: undef :: undef :: undef :: undef :: undef :: undef :: undef :: undef :: undef :: undef :: undef :: undef :: undef :: undef :: undef :: undef :: undef :: undef :: undef :: undef :: undef :: undef :: []).toArray, []⟩ w := by
  refine held_node [7] (by kernel_rfl) (by simp) ?_
  intro i hi
  obtain rfl : i = 7 := by simpa using hi
  · refine held_op (o := ⟨some 3, .alloc 59, _, _, _, none⟩) rfl rfl ?_
    intro K hK
    go_simp
    refine hK _ _ (nd_1111s hpan hq hR hl (hb.alloc hb.size _) ?_)
    exact Hp.more (k := 0) hH (a' := .blk w.heap.size mzero 59) rfl (ext_alloc w _) ⟨hb.size, heap_alloc_new w _⟩ (fun g hg => by have e : w.heap.size = g := Option.some.inj hg; omega) (fun j hj => by match j with | 0 => exact absurd rfl hj | 1 | 2 | 3 | 4 | 5 | 6 => rfl | _ + 7 => rfl) rfl

set_option maxHeartbeats 2000000 in
set_option maxRecDepth 100000 in
theorem nd_1110 {l : List Em.R} {A : Option Addr} {c : Nat} {w0 w : World} {Q : Exit → Act → World → Prop} {vr : Value} {vl : Value} {vn : Value} (hpan : PanQ Q) (hq : StartQ l A c w0 Q) (hR : Row w0 w0.heap.size 4 A l.length (acells l)) (hl : l.length ≤ 1000000) (hb : Below w0.heap.size w0 w)
    (hH : Hp w w0.heap.size (mk4 none (prow l vr) (lrow l.length vl) (lrow 1536 vn))) : wpAnyH Tryd.prog .any mops Q (fun _ => True) 3 #[true, true, true, true, true, true, false, false, false] ⟨(.slice A l.length c :: undef :: .slice none 0 0 :: undef :: undef :: undef :: .slice A l.length c :: vr :: .slice A l.length c :: .int .i64 (l.length : Int) :: vl :: vn :: undef :: undef :: undef :: undef :: undef :: undef :: undef :: undef :: undef :: undef :: undef :: undef :: undef :: undef :: undef :: undef :: undef :: undef :: undef :: undef :: undef :: undef :: undef :: undef :: undef :: undef :: undef :: undef :: undef :: undef :: undef :: undef :: undef :: undef :: undef :: undef :: undef :: undef :: []).toArray, []⟩ w := by
  obtain ⟨A1, c1, rfl, _⟩ := own_shape (Hp.own hH (k := 1) rfl)
  obtain ⟨A2, c2, rfl, _⟩ := own_shape (Hp.own hH (k := 2) rfl)
  obtain ⟨A4, c4, rfl, _⟩ := own_shape (Hp.own hH (k := 4) rfl)
  refine held_rd (i := 6) (o := ⟨some 12, .build 59 #[(0, .tmp 7), (1, .tmp 10), (3, .tmp 11)], _, _, _, none⟩) (.agg #[.slice A1 l.length c1, .slice A2 l.length c2, .slice none 0 0, .slice A4 1536 c4, .slice none 0 0]) rfl rfl (by kernel_rfl) (by kernel_rfl) (by kernel_rfl) hpan (fun w' => by go_simp) ?_
  exact nd_1110s hpan hq hR hl hb hH

set_option maxHeartbeats 2000000 in
set_option maxRecDepth 100000 in
theorem nd_1101 {l : List Em.R} {A : Option Addr} {c : Nat} {w0 w : World} {Q : Exit → Act → World → Prop} {vr : Value} {vl : Value} {b : Nat} (hpan : PanQ Q) (hq : StartQ l A c w0 Q) (hR : Row w0 w0.heap.size 4 A l.length (acells l)) (hl : l.length ≤ 1000000) (hb : Below w0.heap.size w0 w)
    (hH : Hp w w0.heap.size (mk4 (mblk b) (prow l vr) (lrow l.length vl) none)) : wpAnyH Tryd.prog .any mops Q (fun _ => True) 3 #[true, true, true, true, true, false, false, true, false] ⟨(.slice A l.length c :: undef :: .slice none 0 0 :: .pointer (some ⟨b, 0, none⟩) :: undef :: undef :: .slice A l.length c :: vr :: .slice A l.length c :: .int .i64 (l.length : Int) :: vl :: undef :: undef :: undef :: undef :: undef :: undef :: undef :: undef :: undef :: undef :: undef :: undef :: undef :: undef :: undef :: undef :: undef :: undef :: undef :: undef :: undef :: undef :: undef :: undef :: undef :: undef :: undef :: undef :: undef :: undef :: undef :: undef :: undef :: undef :: undef :: undef :: undef :: undef :: undef :: []).toArray, []⟩ w := by
  refine held_node [5] (by kernel_rfl) (by simp) ?_
  intro i hi
  obtain rfl : i = 5 := by simpa using hi
  · refine held_op (o := ⟨some 11, .makeSlice 31 (.const (.int .i64 1536)) (.const (.int .i64 1536)), _, _, _, none⟩) rfl rfl ?_
    intro K hK
    have hmk : ∀ w, (Instr.makeSlice 31 (.int .i64 1536) (.int .i64 1536)).run Tryd.prog w = .ok (.slice (some ⟨w.heap.size, 0, none⟩) 1536 1536) (w.alloc (.cells (madeCells (Value.int .i64 0).cells (1536 * 1)) 3)) := fun w => run_mk pintEI (z := .int .i64 0) (by kernel_rfl) 1536 (by omega) (by omega) w
    have hown := Lib.hid (own_mk w w0.heap.size 1 1536 3 #[.int .i64 0] hb.size (by omega))
    replace hown := Lib.hid (by have := hown.out; rwa [zeros_int] at this)
    simp only [Value.cells] at hmk
    generalize madeCells _ (1536 * 1) = C at *
    go_simp
    refine hK _ _ (nd_1111 hpan hq hR hl (hb.alloc hb.size _) ?_)
    exact Hp.more (k := 4) hH (a' := .row 3 1 (.slice (some ⟨w.heap.size, 0, none⟩) 1536 1536) 1536 (lcells (List.replicate 1536 0))) rfl (ext_alloc w _) hown.out (fun g hg => by have e : w.heap.size = g := Option.some.inj hg; omega) (fun j hj => by match j with | 0 | 1 | 2 | 3 | 5 | 6 => rfl | 4 => exact absurd rfl hj | _ + 7 => rfl) rfl

set_option maxHeartbeats 2000000 in
set_option maxRecDepth 100000 in
theorem nd_1011 {l : List Em.R} {A : Option Addr} {c : Nat} {w0 w : World} {Q : Exit → Act → World → Prop} {vr : Value} {vn : Value} {b : Nat} (hpan : PanQ Q) (hq : StartQ l A c w0 Q) (hR : Row w0 w0.heap.size 4 A l.length (acells l)) (hl : l.length ≤ 1000000) (hb : Below w0.heap.size w0 w)
    (hH : Hp w w0.heap.size (mk4 (mblk b) (prow l vr) none (lrow 1536 vn))) : wpAnyH Tryd.prog .any mops Q (fun _ => True) 3 #[true, true, true, true, false, true, false, true, false] ⟨(.slice A l.length c :: undef :: .slice none 0 0 :: .pointer (some ⟨b, 0, none⟩) :: undef :: undef :: .slice A l.length c :: vr :: .slice A l.length c :: .int .i64 (l.length : Int) :: undef :: vn :: undef :: undef :: undef :: undef :: undef :: undef :: undef :: undef :: undef :: undef :: undef :: undef :: undef :: undef :: undef :: undef :: undef :: undef :: undef :: undef :: undef :: undef :: undef :: undef :: undef :: undef :: undef :: undef :: undef :: undef :: undef :: undef :: undef :: undef :: undef :: undef :: undef :: undef :: []).toArray, []⟩ w := by
  refine held_node [4] (by kernel_rfl) (by simp) ?_
  intro i hi
  obtain rfl : i = 4 := by simpa using hi
  · refine held_op (o := ⟨some 10, .makeSlice 31 (.tmp 9) (.tmp 9), _, _, _, none⟩) rfl rfl ?_
    intro K hK
    have hmk := fun w => run_mk pintEI (z := .int .i64 0) (by kernel_rfl) l.length (by omega) (by omega) w
    have hown := Lib.hid (own_mk w w0.heap.size 1 l.length 3 #[.int .i64 0] hb.size (by omega))
    replace hown := Lib.hid (by have := hown.out; rwa [zeros_int] at this)
    simp only [Value.cells] at hmk
    generalize madeCells _ (l.length * 1) = C at *
    go_simp
    refine hK _ _ (nd_1111 hpan hq hR hl (hb.alloc hb.size _) ?_)
    exact Hp.more (k := 2) hH (a' := .row 3 1 (.slice (some ⟨w.heap.size, 0, none⟩) l.length l.length) l.length (lcells (List.replicate l.length 0))) rfl (ext_alloc w _) hown.out (fun g hg => by have e : w.heap.size = g := Option.some.inj hg; omega) (fun j hj => by match j with | 0 | 1 | 3 | 4 | 5 | 6 => rfl | 2 => exact absurd rfl hj | _ + 7 => rfl) rfl

set_option maxHeartbeats 2000000 in
set_option maxRecDepth 100000 in
theorem nd_0111 {l : List Em.R} {A : Option Addr} {c : Nat} {w0 w : World} {Q : Exit → Act → World → Prop} {vl : Value} {vn : Value} {b : Nat} (hpan : PanQ Q) (hq : StartQ l A c w0 Q) (hR : Row w0 w0.heap.size 4 A l.length (acells l)) (hl : l.length ≤ 1000000) (hb : Below w0.heap.size w0 w)
    (hH : Hp w w0.heap.size (mk4 (mblk b) none (lrow l.length vl) (lrow 1536 vn))) : wpAnyH Tryd.prog .any mops Q (fun _ => True) 3 #[true, false, true, true, true, true, false, true, false] ⟨(.slice A l.length c :: undef :: .slice none 0 0 :: .pointer (some ⟨b, 0, none⟩) :: undef :: undef :: .slice A l.length c :: undef :: .slice A l.length c :: .int .i64 (l.length : Int) :: vl :: vn :: undef :: undef :: undef :: undef :: undef :: undef :: undef :: undef :: undef :: undef :: undef :: undef :: undef :: undef :: undef :: undef :: undef :: undef :: undef :: undef :: undef :: undef :: undef :: undef :: undef :: undef :: undef :: undef :: undef :: undef :: undef :: undef :: undef :: undef :: undef :: undef :: undef :: undef :: []).toArray, []⟩ w := by
  refine held_node [1] (by kernel_rfl) (by simp) ?_
  intro i hi
  obtain rfl : i = 1 := by simpa using hi
  · refine held_op (o := ⟨some 7, .call { callee := .value (.func 20), args := #[.tmp 6], argTypes := #[24] }, _, _, _, none⟩) rfl rfl ?_
    intro K hK
    go_simp
    refine (pheld_any l A c w (hR.ext hb) hl).mono ?_
    rintro e w2 ⟨⟨vr, rfl, hown⟩, hb2⟩
    refine hK _ _ (nd_1111 hpan hq hR hl (ext_trans hb hb2) ?_)
    exact Hp.more (k := 1) hH (a' := .row 29 4 vr l.length (acells (Em.hold l))) rfl hb2 (own_base hown hb.size) (fun g hg => (hown.lt g hg).1) (fun j hj => by match j with | 0 | 2 | 3 | 4 | 5 | 6 => rfl | 1 => exact absurd rfl hj | _ + 7 => rfl) rfl

set_option maxHeartbeats 2000000 in
set_option maxRecDepth 100000 in
theorem nd_1100 {l : List Em.R} {A : Option Addr} {c : Nat} {w0 w : World} {Q : Exit → Act → World → Prop} {vr : Value} {vl : Value} (hpan : PanQ Q) (hq : StartQ l A c w0 Q) (hR : Row w0 w0.heap.size 4 A l.length (acells l)) (hl : l.length ≤ 1000000) (hb : Below w0.heap.size w0 w)
    (hH : Hp w w0.heap.size (mk4 none (prow l vr) (lrow l.length vl) none)) : wpAnyH Tryd.prog .any mops Q (fun _ => True) 4 #[true, true, true, true, true, false, false, false, false] ⟨(.slice A l.length c :: undef :: .slice none 0 0 :: undef :: undef :: undef :: .slice A l.length c :: vr :: .slice A l.length c :: .int .i64 (l.length : Int) :: vl :: undef :: undef :: undef :: undef :: undef :: undef :: undef :: undef :: undef :: undef :: undef :: undef :: undef :: undef :: undef :: undef :: undef :: undef :: undef :: undef :: undef :: undef :: undef :: undef :: undef :: undef :: undef :: undef :: undef :: undef :: undef :: undef :: undef :: undef :: undef :: undef :: undef :: undef :: undef :: []).toArray, []⟩ w := by
  refine held_node [5, 7] (by kernel_rfl) (by simp) ?_
  intro i hi
  have hi2 : i = 5 ∨ i = 7 := by simpa using hi
  clear hi
  rcases hi2 with rfl | rfl
  · refine held_op (o := ⟨some 11, .makeSlice 31 (.const (.int .i64 1536)) (.const (.int .i64 1536)), _, _, _, none⟩) rfl rfl ?_
    intro K hK
    have hmk : ∀ w, (Instr.makeSlice 31 (.int .i64 1536) (.int .i64 1536)).run Tryd.prog w = .ok (.slice (some ⟨w.heap.size, 0, none⟩) 1536 1536) (w.alloc (.cells (madeCells (Value.int .i64 0).cells (1536 * 1)) 3)) := fun w => run_mk pintEI (z := .int .i64 0) (by kernel_rfl) 1536 (by omega) (by omega) w
    have hown := Lib.hid (own_mk w w0.heap.size 1 1536 3 #[.int .i64 0] hb.size (by omega))
    replace hown := Lib.hid (by have := hown.out; rwa [zeros_int] at this)
    simp only [Value.cells] at hmk
    generalize madeCells _ (1536 * 1) = C at *
    go_simp
    refine hK _ _ (nd_1110 hpan hq hR hl (hb.alloc hb.size _) ?_)
    exact Hp.more (k := 4) hH (a' := .row 3 1 (.slice (some ⟨w.heap.size, 0, none⟩) 1536 1536) 1536 (lcells (List.replicate 1536 0))) rfl (ext_alloc w _) hown.out (fun g hg => by have e : w.heap.size = g := Option.some.inj hg; omega) (fun j hj => by match j with | 0 | 1 | 2 | 3 | 5 | 6 => rfl | 4 => exact absurd rfl hj | _ + 7 => rfl) rfl
  · refine held_op (o := ⟨some 3, .alloc 59, _, _, _, none⟩) rfl rfl ?_
    intro K hK
    go_simp
    refine hK _ _ (nd_1101 hpan hq hR hl (hb.alloc hb.size _) ?_)
    exact Hp.more (k := 0) hH (a' := .blk w.heap.size mzero 59) rfl (ext_alloc w _) ⟨hb.size, heap_alloc_new w _⟩ (fun g hg => by have e : w.heap.size = g := Option.some.inj hg; omega) (fun j hj => by match j with | 0 => exact absurd rfl hj | 1 | 2 | 3 | 4 | 5 | 6 => rfl | _ + 7 => rfl) rfl

set_option maxHeartbeats 2000000 in
set_option maxRecDepth 100000 in
theorem nd_1010 {l : List Em.R} {A : Option Addr} {c : Nat} {w0 w : World} {Q : Exit → Act → World → Prop} {vr : Value} {vn : Value} (hpan : PanQ Q) (hq : StartQ l A c w0 Q) (hR : Row w0 w0.heap.size 4 A l.length (acells l)) (hl : l.length ≤ 1000000) (hb : Below w0.heap.size w0 w)
    (hH : Hp w w0.heap.size (mk4 none (prow l vr) none (lrow 1536 vn))) : wpAnyH Tryd.prog .any mops Q (fun _ => True) 4 #[true, true, true, true, false, true, false, false, false] ⟨(.slice A l.length c :: undef :: .slice none 0 0 :: undef :: undef :: undef :: .slice A l.length c :: vr :: .slice A l.length c :: .int .i64 (l.length : Int) :: undef :: vn :: undef :: undef :: undef :: undef :: undef :: undef :: undef :: undef :: undef :: undef :: undef :: undef :: undef :: undef :: undef :: undef :: undef :: undef :: undef :: undef :: undef :: undef :: undef :: undef :: undef :: undef :: undef :: undef :: undef :: undef :: undef :: undef :: undef :: undef :: undef :: undef :: undef :: undef :: []).toArray, []⟩ w := by
  refine held_node [4, 7] (by kernel_rfl) (by simp) ?_
  intro i hi
  have hi2 : i = 4 ∨ i = 7 := by simpa using hi
  clear hi
  rcases hi2 with rfl | rfl
  · refine held_op (o := ⟨some 10, .makeSlice 31 (.tmp 9) (.tmp 9), _, _, _, none⟩) rfl rfl ?_
    intro K hK
    have hmk := fun w => run_mk pintEI (z := .int .i64 0) (by kernel_rfl) l.length (by omega) (by omega) w
    have hown := Lib.hid (own_mk w w0.heap.size 1 l.length 3 #[.int .i64 0] hb.size (by omega))
    replace hown := Lib.hid (by have := hown.out; rwa [zeros_int] at this)
    simp only [Value.cells] at hmk
    generalize madeCells _ (l.length * 1) = C at *
    go_simp
    refine hK _ _ (nd_1110 hpan hq hR hl (hb.alloc hb.size _) ?_)
    exact Hp.more (k := 2) hH (a' := .row 3 1 (.slice (some ⟨w.heap.size, 0, none⟩) l.length l.length) l.length (lcells (List.replicate l.length 0))) rfl (ext_alloc w _) hown.out (fun g hg => by have e : w.heap.size = g := Option.some.inj hg; omega) (fun j hj => by match j with | 0 | 1 | 3 | 4 | 5 | 6 => rfl | 2 => exact absurd rfl hj | _ + 7 => rfl) rfl
  · refine held_op (o := ⟨some 3, .alloc 59, _, _, _, none⟩) rfl rfl ?_
    intro K hK
    go_simp
    refine hK _ _ (nd_1011 hpan hq hR hl (hb.alloc hb.size _) ?_)
    exact Hp.more (k := 0) hH (a' := .blk w.heap.size mzero 59) rfl (ext_alloc w _) ⟨hb.size, heap_alloc_new w _⟩ (fun g hg => by have e : w.heap.size = g := Option.some.inj hg; omega) (fun j hj => by match j with | 0 => exact absurd rfl hj | 1 | 2 | 3 | 4 | 5 | 6 => rfl | _ + 7 => rfl) rfl

set_option maxHeartbeats 2000000 in
set_option maxRecDepth 100000 in
theorem nd_1001 {l : List Em.R} {A : Option Addr} {c : Nat} {w0 w : World} {Q : Exit → Act → World → Prop} {vr : Value} {b : Nat} (hpan : PanQ Q) (hq : StartQ l A c w0 Q) (hR : Row w0 w0.heap.size 4 A l.length (acells l)) (hl : l.length ≤ 1000000) (hb : Below w0.heap.size w0 w)
    (hH : Hp w w0.heap.size (mk4 (mblk b) (prow l vr) none none)) : wpAnyH Tryd.prog .any mops Q (fun _ => True) 4 #[true, true, true, true, false, false, false, true, false] ⟨(.slice A l.length c :: undef :: .slice none 0 0 :: .pointer (some ⟨b, 0, none⟩) :: undef :: undef :: .slice A l.length c :: vr :: .slice A l.length c :: .int .i64 (l.length : Int) :: undef :: undef :: undef :: undef :: undef :: undef :: undef :: undef :: undef :: undef :: undef :: undef :: undef :: undef :: undef :: undef :: undef :: undef :: undef :: undef :: undef :: undef :: undef :: undef :: undef :: undef :: undef :: undef :: undef :: undef :: undef :: undef :: undef :: undef :: undef :: undef :: undef :: undef :: undef :: undef :: []).toArray, []⟩ w := by
  refine held_node [4, 5] (by kernel_rfl) (by simp) ?_
  intro i hi
  have hi2 : i = 4 ∨ i = 5 := by simpa using hi
  clear hi
  rcases hi2 with rfl | rfl
  · refine held_op (o := ⟨some 10, .makeSlice 31 (.tmp 9) (.tmp 9), _, _, _, none⟩) rfl rfl ?_
    intro K hK
    have hmk := fun w => run_mk pintEI (z := .int .i64 0) (by kernel_rfl) l.length (by omega) (by omega) w
    have hown := Lib.hid (own_mk w w0.heap.size 1 l.length 3 #[.int .i64 0] hb.size (by omega))
    replace hown := Lib.hid (by have := hown.out; rwa [zeros_int] at this)
    simp only [Value.cells] at hmk
    generalize madeCells _ (l.length * 1) = C at *
    go_simp
    refine hK _ _ (nd_1101 hpan hq hR hl (hb.alloc hb.size _) ?_)
    exact Hp.more (k := 2) hH (a' := .row 3 1 (.slice (some ⟨w.heap.size, 0, none⟩) l.length l.length) l.length (lcells (List.replicate l.length 0))) rfl (ext_alloc w _) hown.out (fun g hg => by have e : w.heap.size = g := Option.some.inj hg; omega) (fun j hj => by match j with | 0 | 1 | 3 | 4 | 5 | 6 => rfl | 2 => exact absurd rfl hj | _ + 7 => rfl) rfl
  · refine held_op (o := ⟨some 11, .makeSlice 31 (.const (.int .i64 1536)) (.const (.int .i64 1536)), _, _, _, none⟩) rfl rfl ?_
    intro K hK
    have hmk : ∀ w, (Instr.makeSlice 31 (.int .i64 1536) (.int .i64 1536)).run Tryd.prog w = .ok (.slice (some ⟨w.heap.size, 0, none⟩) 1536 1536) (w.alloc (.cells (madeCells (Value.int .i64 0).cells (1536 * 1)) 3)) := fun w => run_mk pintEI (z := .int .i64 0) (by kernel_rfl) 1536 (by omega) (by omega) w
    have hown := Lib.hid (own_mk w w0.heap.size 1 1536 3 #[.int .i64 0] hb.size (by omega))
    replace hown := Lib.hid (by have := hown.out; rwa [zeros_int] at this)
    simp only [Value.cells] at hmk
    generalize madeCells _ (1536 * 1) = C at *
    go_simp
    refine hK _ _ (nd_1011 hpan hq hR hl (hb.alloc hb.size _) ?_)
    exact Hp.more (k := 4) hH (a' := .row 3 1 (.slice (some ⟨w.heap.size, 0, none⟩) 1536 1536) 1536 (lcells (List.replicate 1536 0))) rfl (ext_alloc w _) hown.out (fun g hg => by have e : w.heap.size = g := Option.some.inj hg; omega) (fun j hj => by match j with | 0 | 1 | 2 | 3 | 5 | 6 => rfl | 4 => exact absurd rfl hj | _ + 7 => rfl) rfl

set_option maxHeartbeats 2000000 in
set_option maxRecDepth 100000 in
theorem nd_0110 {l : List Em.R} {A : Option Addr} {c : Nat} {w0 w : World} {Q : Exit → Act → World → Prop} {vl : Value} {vn : Value} (hpan : PanQ Q) (hq : StartQ l A c w0 Q) (hR : Row w0 w0.heap.size 4 A l.length (acells l)) (hl : l.length ≤ 1000000) (hb : Below w0.heap.size w0 w)
    (hH : Hp w w0.heap.size (mk4 none none (lrow l.length vl) (lrow 1536 vn))) : wpAnyH Tryd.prog .any mops Q (fun _ => True) 4 #[true, false, true, true, true, true, false, false, false] ⟨(.slice A l.length c :: undef :: .slice none 0 0 :: undef :: undef :: undef :: .slice A l.length c :: undef :: .slice A l.length c :: .int .i64 (l.length : Int) :: vl :: vn :: undef :: undef :: undef :: undef :: undef :: undef :: undef :: undef :: undef :: undef :: undef :: undef :: undef :: undef :: undef :: undef :: undef :: undef :: undef :: undef :: undef :: undef :: undef :: undef :: undef :: undef :: undef :: undef :: undef :: undef :: undef :: undef :: undef :: undef :: undef :: undef :: undef :: undef :: []).toArray, []⟩ w := by
  refine held_node [1, 7] (by kernel_rfl) (by simp) ?_
  intro i hi
  have hi2 : i = 1 ∨ i = 7 := by simpa using hi
  clear hi
  rcases hi2 with rfl | rfl
  · refine held_op (o := ⟨some 7, .call { callee := .value (.func 20), args := #[.tmp 6], argTypes := #[24] }, _, _, _, none⟩) rfl rfl ?_
    intro K hK
    go_simp
    refine (pheld_any l A c w (hR.ext hb) hl).mono ?_
    rintro e w2 ⟨⟨vr, rfl, hown⟩, hb2⟩
    refine hK _ _ (nd_1110 hpan hq hR hl (ext_trans hb hb2) ?_)
    exact Hp.more (k := 1) hH (a' := .row 29 4 vr l.length (acells (Em.hold l))) rfl hb2 (own_base hown hb.size) (fun g hg => (hown.lt g hg).1) (fun j hj => by match j with | 0 | 2 | 3 | 4 | 5 | 6 => rfl | 1 => exact absurd rfl hj | _ + 7 => rfl) rfl
  · refine held_op (o := ⟨some 3, .alloc 59, _, _, _, none⟩) rfl rfl ?_
    intro K hK
    go_simp
    refine hK _ _ (nd_0111 hpan hq hR hl (hb.alloc hb.size _) ?_)
    exact Hp.more (k := 0) hH (a' := .blk w.heap.size mzero 59) rfl (ext_alloc w _) ⟨hb.size, heap_alloc_new w _⟩ (fun g hg => by have e : w.heap.size = g := Option.some.inj hg; omega) (fun j hj => by match j with | 0 => exact absurd rfl hj | 1 | 2 | 3 | 4 | 5 | 6 => rfl | _ + 7 => rfl) rfl

set_option maxHeartbeats 2000000 in
set_option maxRecDepth 100000 in
theorem nd_0101 {l : List Em.R} {A : Option Addr} {c : Nat} {w0 w : World} {Q : Exit → Act → World → Prop} {vl : Value} {b : Nat} (hpan : PanQ Q) (hq : StartQ l A c w0 Q) (hR : Row w0 w0.heap.size 4 A l.length (acells l)) (hl : l.length ≤ 1000000) (hb : Below w0.heap.size w0 w)
    (hH : Hp w w0.heap.size (mk4 (mblk b) none (lrow l.length vl) none)) : wpAnyH Tryd.prog .any mops Q (fun _ => True) 4 #[true, false, true, true, true, false, false, true, false] ⟨(.slice A l.length c :: undef :: .slice none 0 0 :: .pointer (some ⟨b, 0, none⟩) :: undef :: undef :: .slice A l.length c :: undef :: .slice A l.length c :: .int .i64 (l.length : Int) :: vl :: undef :: undef :: undef :: undef :: undef :: undef :: undef :: undef :: undef :: undef :: undef :: undef :: undef :: undef :: undef :: undef :: undef :: undef :: undef :: undef :: undef :: undef :: undef :: undef :: undef :: undef :: undef :: undef :: undef :: undef :: undef :: undef :: undef :: undef :: undef :: undef :: undef :: undef :: undef :: []).toArray, []⟩ w := by
  refine held_node [1, 5] (by kernel_rfl) (by simp) ?_
  intro i hi
  have hi2 : i = 1 ∨ i = 5 := by simpa using hi
  clear hi
  rcases hi2 with rfl | rfl
  · refine held_op (o := ⟨some 7, .call { callee := .value (.func 20), args := #[.tmp 6], argTypes := #[24] }, _, _, _, none⟩) rfl rfl ?_
    intro K hK
    go_simp
    refine (pheld_any l A c w (hR.ext hb) hl).mono ?_
    rintro e w2 ⟨⟨vr, rfl, hown⟩, hb2⟩
    refine hK _ _ (nd_1101 hpan hq hR hl (ext_trans hb hb2) ?_)
    exact Hp.more (k := 1) hH (a' := .row 29 4 vr l.length (acells (Em.hold l))) rfl hb2 (own_base hown hb.size) (fun g hg => (hown.lt g hg).1) (fun j hj => by match j with | 0 | 2 | 3 | 4 | 5 | 6 => rfl | 1 => exact absurd rfl hj | _ + 7 => rfl) rfl
  · refine held_op (o := ⟨some 11, .makeSlice 31 (.const (.int .i64 1536)) (.const (.int .i64 1536)), _, _, _, none⟩) rfl rfl ?_
    intro K hK
    have hmk : ∀ w, (Instr.makeSlice 31 (.int .i64 1536) (.int .i64 1536)).run Tryd.prog w = .ok (.slice (some ⟨w.heap.size, 0, none⟩) 1536 1536) (w.alloc (.cells (madeCells (Value.int .i64 0).cells (1536 * 1)) 3)) := fun w => run_mk pintEI (z := .int .i64 0) (by kernel_rfl) 1536 (by omega) (by omega) w
    have hown := Lib.hid (own_mk w w0.heap.size 1 1536 3 #[.int .i64 0] hb.size (by omega))
    replace hown := Lib.hid (by have := hown.out; rwa [zeros_int] at this)
    simp only [Value.cells] at hmk
    generalize madeCells _ (1536 * 1) = C at *
    go_simp
    refine hK _ _ (nd_0111 hpan hq hR hl (hb.alloc hb.size _) ?_)
    exact Hp.more (k := 4) hH (a' := .row 3 1 (.slice (some ⟨w.heap.size, 0, none⟩) 1536 1536) 1536 (lcells (List.replicate 1536 0))) rfl (ext_alloc w _) hown.out (fun g hg => by have e : w.heap.size = g := Option.some.inj hg; omega) (fun j hj => by match j with | 0 | 1 | 2 | 3 | 5 | 6 => rfl | 4 => exact absurd rfl hj | _ + 7 => rfl) rfl

set_option maxHeartbeats 2000000 in
set_option maxRecDepth 100000 in
theorem nd_0011 {l : List Em.R} {A : Option Addr} {c : Nat} {w0 w : World} {Q : Exit → Act → World → Prop} {vn : Value} {b : Nat} (hpan : PanQ Q) (hq : StartQ l A c w0 Q) (hR : Row w0 w0.heap.size 4 A l.length (acells l)) (hl : l.length ≤ 1000000) (hb : Below w0.heap.size w0 w)
    (hH : Hp w w0.heap.size (mk4 (mblk b) none none (lrow 1536 vn))) : wpAnyH Tryd.prog .any mops Q (fun _ => True) 4 #[true, false, true, true, false, true, false, true, false] ⟨(.slice A l.length c :: undef :: .slice none 0 0 :: .pointer (some ⟨b, 0, none⟩) :: undef :: undef :: .slice A l.length c :: undef :: .slice A l.length c :: .int .i64 (l.length : Int) :: undef :: vn :: undef :: undef :: undef :: undef :: undef :: undef :: undef :: undef :: undef :: undef :: undef :: undef :: undef :: undef :: undef :: undef :: undef :: undef :: undef :: undef :: undef :: undef :: undef :: undef :: undef :: undef :: undef :: undef :: undef :: undef :: undef :: undef :: undef :: undef :: undef :: undef :: undef :: undef :: []).toArray, []⟩ w := by
  refine held_node [1, 4] (by kernel_rfl) (by simp) ?_
  intro i hi
  have hi2 : i = 1 ∨ i = 4 := by simpa using hi
  clear hi
  rcases hi2 with rfl | rfl
  · refine held_op (o := ⟨some 7, .call { callee := .value (.func 20), args := #[.tmp 6], argTypes := #[24] }, _, _, _, none⟩) rfl rfl ?_
    intro K hK
    go_simp
    refine (pheld_any l A c w (hR.ext hb) hl).mono ?_
    rintro e w2 ⟨⟨vr, rfl, hown⟩, hb2⟩
    refine hK _ _ (nd_1011 hpan hq hR hl (ext_trans hb hb2) ?_)
    exact Hp.more (k := 1) hH (a' := .row 29 4 vr l.length (acells (Em.hold l))) rfl hb2 (own_base hown hb.size) (fun g hg => (hown.lt g hg).1) (fun j hj => by match j with | 0 | 2 | 3 | 4 | 5 | 6 => rfl | 1 => exact absurd rfl hj | _ + 7 => rfl) rfl
  · refine held_op (o := ⟨some 10, .makeSlice 31 (.tmp 9) (.tmp 9), _, _, _, none⟩) rfl rfl ?_
    intro K hK
    have hmk := fun w => run_mk pintEI (z := .int .i64 0) (by kernel_rfl) l.length (by omega) (by omega) w
    have hown := Lib.hid (own_mk w w0.heap.size 1 l.length 3 #[.int .i64 0] hb.size (by omega))
    replace hown := Lib.hid (by have := hown.out; rwa [zeros_int] at this)
    simp only [Value.cells] at hmk
    generalize madeCells _ (l.length * 1) = C at *
    go_simp
    refine hK _ _ (nd_0111 hpan hq hR hl (hb.alloc hb.size _) ?_)
    exact Hp.more (k := 2) hH (a' := .row 3 1 (.slice (some ⟨w.heap.size, 0, none⟩) l.length l.length) l.length (lcells (List.replicate l.length 0))) rfl (ext_alloc w _) hown.out (fun g hg => by have e : w.heap.size = g := Option.some.inj hg; omega) (fun j hj => by match j with | 0 | 1 | 3 | 4 | 5 | 6 => rfl | 2 => exact absurd rfl hj | _ + 7 => rfl) rfl

set_option maxHeartbeats 2000000 in
set_option maxRecDepth 100000 in
theorem nd_1000 {l : List Em.R} {A : Option Addr} {c : Nat} {w0 w : World} {Q : Exit → Act → World → Prop} {vr : Value} (hpan : PanQ Q) (hq : StartQ l A c w0 Q) (hR : Row w0 w0.heap.size 4 A l.length (acells l)) (hl : l.length ≤ 1000000) (hb : Below w0.heap.size w0 w)
    (hH : Hp w w0.heap.size (mk4 none (prow l vr) none none)) : wpAnyH Tryd.prog .any mops Q (fun _ => True) 5 #[true, true, true, true, false, false, false, false, false] ⟨(.slice A l.length c :: undef :: .slice none 0 0 :: undef :: undef :: undef :: .slice A l.length c :: vr :: .slice A l.length c :: .int .i64 (l.length : Int) :: undef :: undef :: undef :: undef :: undef :: undef :: undef :: undef :: undef :: undef :: undef :: undef :: undef :: undef :: undef :: undef :: undef :: undef :: undef :: undef :: undef :: undef :: undef :: undef :: undef :: undef :: undef :: undef :: undef :: undef :: undef :: undef :: undef :: undef :: undef :: undef :: undef :: undef :: undef :: undef :: []).toArray, []⟩ w := by
  refine held_node [4, 5, 7] (by kernel_rfl) (by simp) ?_
  intro i hi
  have hi2 : i = 4 ∨ i = 5 ∨ i = 7 := by simpa using hi
  clear hi
  rcases hi2 with rfl | rfl | rfl
  · refine held_op (o := ⟨some 10, .makeSlice 31 (.tmp 9) (.tmp 9), _, _, _, none⟩) rfl rfl ?_
    intro K hK
    have hmk := fun w => run_mk pintEI (z := .int .i64 0) (by kernel_rfl) l.length (by omega) (by omega) w
    have hown := Lib.hid (own_mk w w0.heap.size 1 l.length 3 #[.int .i64 0] hb.size (by omega))
    replace hown := Lib.hid (by have := hown.out; rwa [zeros_int] at this)
    simp only [Value.cells] at hmk
    generalize madeCells _ (l.length * 1) = C at *
    go_simp
    refine hK _ _ (nd_1100 hpan hq hR hl (hb.alloc hb.size _) ?_)
    exact Hp.more (k := 2) hH (a' := .row 3 1 (.slice (some ⟨w.heap.size, 0, none⟩) l.length l.length) l.length (lcells (List.replicate l.length 0))) rfl (ext_alloc w _) hown.out (fun g hg => by have e : w.heap.size = g := Option.some.inj hg; omega) (fun j hj => by match j with | 0 | 1 | 3 | 4 | 5 | 6 => rfl | 2 => exact absurd rfl hj | _ + 7 => rfl) rfl
  · refine held_op (o := ⟨some 11, .makeSlice 31 (.const (.int .i64 1536)) (.const (.int .i64 1536)), _, _, _, none⟩) rfl rfl ?_
    intro K hK
    have hmk : ∀ w, (Instr.makeSlice 31 (.int .i64 1536) (.int .i64 1536)).run Tryd.prog w = .ok (.slice (some ⟨w.heap.size, 0, none⟩) 1536 1536) (w.alloc (.cells (madeCells (Value.int .i64 0).cells (1536 * 1)) 3)) := fun w => run_mk pintEI (z := .int .i64 0) (by kernel_rfl) 1536 (by omega) (by omega) w
    have hown := Lib.hid (own_mk w w0.heap.size 1 1536 3 #[.int .i64 0] hb.size (by omega))
    replace hown := Lib.hid (by have := hown.out; rwa [zeros_int] at this)
    simp only [Value.cells] at hmk
    generalize madeCells _ (1536 * 1) = C at *
    go_simp
    refine hK _ _ (nd_1010 hpan hq hR hl (hb.alloc hb.size _) ?_)
    exact Hp.more (k := 4) hH (a' := .row 3 1 (.slice (some ⟨w.heap.size, 0, none⟩) 1536 1536) 1536 (lcells (List.replicate 1536 0))) rfl (ext_alloc w _) hown.out (fun g hg => by have e : w.heap.size = g := Option.some.inj hg; omega) (fun j hj => by match j with | 0 | 1 | 2 | 3 | 5 | 6 => rfl | 4 => exact absurd rfl hj | _ + 7 => rfl) rfl
  · refine held_op (o := ⟨some 3, .alloc 59, _, _, _, none⟩) rfl rfl ?_
    intro K hK
    go_simp
    refine hK _ _ (nd_1001 hpan hq hR hl (hb.alloc hb.size _) ?_)
    exact Hp.more (k := 0) hH (a' := .blk w.heap.size mzero 59) rfl (ext_alloc w _) ⟨hb.size, heap_alloc_new w _⟩ (fun g hg => by have e : w.heap.size = g := Option.some.inj hg; omega) (fun j hj => by match j with | 0 => exact absurd rfl hj | 1 | 2 | 3 | 4 | 5 | 6 => rfl | _ + 7 => rfl) rfl

set_option maxHeartbeats 2000000 in
set_option maxRecDepth 100000 in
theorem nd_0100 {l : List Em.R} {A : Option Addr} {c : Nat} {w0 w : World} {Q : Exit → Act → World → Prop} {vl : Value} (hpan : PanQ Q) (hq : StartQ l A c w0 Q) (hR : Row w0 w0.heap.size 4 A l.length (acells l)) (hl : l.length ≤ 1000000) (hb : Below w0.heap.size w0 w)
    (hH : Hp w w0.heap.size (mk4 none none (lrow l.length vl) none)) : wpAnyH Tryd.prog .any mops Q (fun _ => True) 5 #[true, false, true, true, true, false, false, false, false] ⟨(.slice A l.length c :: undef :: .slice none 0 0 :: undef :: undef :: undef :: .slice A l.length c :: undef :: .slice A l.length c :: .int .i64 (l.length : Int) :: vl :: undef :: undef :: undef :: undef :: undef :: undef :: undef :: undef :: undef :: undef :: undef :: undef :: undef :: undef :: undef :: undef :: undef :: undef :: undef :: undef :: undef :: undef :: undef :: undef :: undef :: undef :: undef :: undef :: undef :: undef :: undef :: undef :: undef :: undef :: undef :: undef :: undef :: undef :: undef :: []).toArray, []⟩ w := by
  refine held_node [1, 5, 7] (by kernel_rfl) (by simp) ?_
  intro i hi
  have hi2 : i = 1 ∨ i = 5 ∨ i = 7 := by simpa using hi
  clear hi
  rcases hi2 with rfl | rfl | rfl
  · refine held_op (o := ⟨some 7, .call { callee := .value (.func 20), args := #[.tmp 6], argTypes := #[24] }, _, _, _, none⟩) rfl rfl ?_
    intro K hK
    go_simp
    refine (pheld_any l A c w (hR.ext hb) hl).mono ?_
    rintro e w2 ⟨⟨vr, rfl, hown⟩, hb2⟩
    refine hK _ _ (nd_1100 hpan hq hR hl (ext_trans hb hb2) ?_)
    exact Hp.more (k := 1) hH (a' := .row 29 4 vr l.length (acells (Em.hold l))) rfl hb2 (own_base hown hb.size) (fun g hg => (hown.lt g hg).1) (fun j hj => by match j with | 0 | 2 | 3 | 4 | 5 | 6 => rfl | 1 => exact absurd rfl hj | _ + 7 => rfl) rfl
  · refine held_op (o := ⟨some 11, .makeSlice 31 (.const (.int .i64 1536)) (.const (.int .i64 1536)), _, _, _, none⟩) rfl rfl ?_
    intro K hK
    have hmk : ∀ w, (Instr.makeSlice 31 (.int .i64 1536) (.int .i64 1536)).run Tryd.prog w = .ok (.slice (some ⟨w.heap.size, 0, none⟩) 1536 1536) (w.alloc (.cells (madeCells (Value.int .i64 0).cells (1536 * 1)) 3)) := fun w => run_mk pintEI (z := .int .i64 0) (by kernel_rfl) 1536 (by omega) (by omega) w
    have hown := Lib.hid (own_mk w w0.heap.size 1 1536 3 #[.int .i64 0] hb.size (by omega))
    replace hown := Lib.hid (by have := hown.out; rwa [zeros_int] at this)
    simp only [Value.cells] at hmk
    generalize madeCells _ (1536 * 1) = C at *
    go_simp
    refine hK _ _ (nd_0110 hpan hq hR hl (hb.alloc hb.size _) ?_)
    exact Hp.more (k := 4) hH (a' := .row 3 1 (.slice (some ⟨w.heap.size, 0, none⟩) 1536 1536) 1536 (lcells (List.replicate 1536 0))) rfl (ext_alloc w _) hown.out (fun g hg => by have e : w.heap.size = g := Option.some.inj hg; omega) (fun j hj => by match j with | 0 | 1 | 2 | 3 | 5 | 6 => rfl | 4 => exact absurd rfl hj | _ + 7 => rfl) rfl
  · refine held_op (o := ⟨some 3, .alloc 59, _, _, _, none⟩) rfl rfl ?_
    intro K hK
    go_simp
    refine hK _ _ (nd_0101 hpan hq hR hl (hb.alloc hb.size _) ?_)
    exact Hp.more (k := 0) hH (a' := .blk w.heap.size mzero 59) rfl (ext_alloc w _) ⟨hb.size, heap_alloc_new w _⟩ (fun g hg => by have e : w.heap.size = g := Option.some.inj hg; omega) (fun j hj => by match j with | 0 => exact absurd rfl hj | 1 | 2 | 3 | 4 | 5 | 6 => rfl | _ + 7 => rfl) rfl

set_option maxHeartbeats 2000000 in
set_option maxRecDepth 100000 in
theorem nd_0010 {l : List Em.R} {A : Option Addr} {c : Nat} {w0 w : World} {Q : Exit → Act → World → Prop} {vn : Value} (hpan : PanQ Q) (hq : StartQ l A c w0 Q) (hR : Row w0 w0.heap.size 4 A l.length (acells l)) (hl : l.length ≤ 1000000) (hb : Below w0.heap.size w0 w)
    (hH : Hp w w0.heap.size (mk4 none none none (lrow 1536 vn))) : wpAnyH Tryd.prog .any mops Q (fun _ => True) 5 #[true, false, true, true, false, true, false, false, false] ⟨(.slice A l.length c :: undef :: .slice none 0 0 :: undef :: undef :: undef :: .slice A l.length c :: undef :: .slice A l.length c :: .int .i64 (l.length : Int) :: undef :: vn :: undef :: undef :: undef :: undef :: undef :: undef :: undef :: undef :: undef :: undef :: undef :: undef :: undef :: undef :: undef :: undef :: undef :: undef :: undef :: undef :: undef :: undef :: undef :: undef :: undef :: undef :: undef :: undef :: undef :: undef :: undef :: undef :: undef :: undef :: undef :: undef :: undef :: undef :: []).toArray, []⟩ w := by
  refine held_node [1, 4, 7] (by kernel_rfl) (by simp) ?_
  intro i hi
  have hi2 : i = 1 ∨ i = 4 ∨ i = 7 := by simpa using hi
  clear hi
  rcases hi2 with rfl | rfl | rfl
  · refine held_op (o := ⟨some 7, .call { callee := .value (.func 20), args := #[.tmp 6], argTypes := #[24] }, _, _, _, none⟩) rfl rfl ?_
    intro K hK
    go_simp
    refine (pheld_any l A c w (hR.ext hb) hl).mono ?_
    rintro e w2 ⟨⟨vr, rfl, hown⟩, hb2⟩
    refine hK _ _ (nd_1010 hpan hq hR hl (ext_trans hb hb2) ?_)
    exact Hp.more (k := 1) hH (a' := .row 29 4 vr l.length (acells (Em.hold l))) rfl hb2 (own_base hown hb.size) (fun g hg => (hown.lt g hg).1) (fun j hj => by match j with | 0 | 2 | 3 | 4 | 5 | 6 => rfl | 1 => exact absurd rfl hj | _ + 7 => rfl) rfl
  · refine held_op (o := ⟨some 10, .makeSlice 31 (.tmp 9) (.tmp 9), _, _, _, none⟩) rfl rfl ?_
    intro K hK
    have hmk := fun w => run_mk pintEI (z := .int .i64 0) (by kernel_rfl) l.length (by omega) (by omega) w
    have hown := Lib.hid (own_mk w w0.heap.size 1 l.length 3 #[.int .i64 0] hb.size (by omega))
    replace hown := Lib.hid (by have := hown.out; rwa [zeros_int] at this)
    simp only [Value.cells] at hmk
    generalize madeCells _ (l.length * 1) = C at *
    go_simp
    refine hK _ _ (nd_0110 hpan hq hR hl (hb.alloc hb.size _) ?_)
    exact Hp.more (k := 2) hH (a' := .row 3 1 (.slice (some ⟨w.heap.size, 0, none⟩) l.length l.length) l.length (lcells (List.replicate l.length 0))) rfl (ext_alloc w _) hown.out (fun g hg => by have e : w.heap.size = g := Option.some.inj hg; omega) (fun j hj => by match j with | 0 | 1 | 3 | 4 | 5 | 6 => rfl | 2 => exact absurd rfl hj | _ + 7 => rfl) rfl
  · refine held_op (o := ⟨some 3, .alloc 59, _, _, _, none⟩) rfl rfl ?_
    intro K hK
    go_simp
    refine hK _ _ (nd_0011 hpan hq hR hl (hb.alloc hb.size _) ?_)
    exact Hp.more (k := 0) hH (a' := .blk w.heap.size mzero 59) rfl (ext_alloc w _) ⟨hb.size, heap_alloc_new w _⟩ (fun g hg => by have e : w.heap.size = g := Option.some.inj hg; omega) (fun j hj => by match j with | 0 => exact absurd rfl hj | 1 | 2 | 3 | 4 | 5 | 6 => rfl | _ + 7 => rfl) rfl

set_option maxHeartbeats 2000000 in
set_option maxRecDepth 100000 in
theorem nd_0001 {l : List Em.R} {A : Option Addr} {c : Nat} {w0 w : World} {Q : Exit → Act → World → Prop} {b : Nat} (hpan : PanQ Q) (hq : StartQ l A c w0 Q) (hR : Row w0 w0.heap.size 4 A l.length (acells l)) (hl : l.length ≤ 1000000) (hb : Below w0.heap.size w0 w)
    (hH : Hp w w0.heap.size (mk4 (mblk b) none none none)) : wpAnyH Tryd.prog .any mops Q (fun _ => True) 5 #[true, false, true, true, false, false, false, true, false] ⟨(.slice A l.length c :: undef :: .slice none 0 0 :: .pointer (some ⟨b, 0, none⟩) :: undef :: undef :: .slice A l.length c :: undef :: .slice A l.length c :: .int .i64 (l.length : Int) :: undef :: undef :: undef :: undef :: undef :: undef :: undef :: undef :: undef :: undef :: undef :: undef :: undef :: undef :: undef :: undef :: undef :: undef :: undef :: undef :: undef :: undef :: undef :: undef :: undef :: undef :: undef :: undef :: undef :: undef :: undef :: undef :: undef :: undef :: undef :: undef :: undef :: undef :: undef :: undef :: []).toArray, []⟩ w := by
  refine held_node [1, 4, 5] (by kernel_rfl) (by simp) ?_
  intro i hi
  have hi2 : i = 1 ∨ i = 4 ∨ i = 5 := by simpa using hi
  clear hi
  rcases hi2 with rfl | rfl | rfl
  · refine held_op (o := ⟨some 7, .call { callee := .value (.func 20), args := #[.tmp 6], argTypes := #[24] }, _, _, _, none⟩) rfl rfl ?_
    intro K hK
    go_simp
    refine (pheld_any l A c w (hR.ext hb) hl).mono ?_
    rintro e w2 ⟨⟨vr, rfl, hown⟩, hb2⟩
    refine hK _ _ (nd_1001 hpan hq hR hl (ext_trans hb hb2) ?_)
    exact Hp.more (k := 1) hH (a' := .row 29 4 vr l.length (acells (Em.hold l))) rfl hb2 (own_base hown hb.size) (fun g hg => (hown.lt g hg).1) (fun j hj => by match j with | 0 | 2 | 3 | 4 | 5 | 6 => rfl | 1 => exact absurd rfl hj | _ + 7 => rfl) rfl
  · refine held_op (o := ⟨some 10, .makeSlice 31 (.tmp 9) (.tmp 9), _, _, _, none⟩) rfl rfl ?_
    intro K hK
    have hmk := fun w => run_mk pintEI (z := .int .i64 0) (by kernel_rfl) l.length (by omega) (by omega) w
    have hown := Lib.hid (own_mk w w0.heap.size 1 l.length 3 #[.int .i64 0] hb.size (by omega))
    replace hown := Lib.hid (by have := hown.out; rwa [zeros_int] at this)
    simp only [Value.cells] at hmk
    generalize madeCells _ (l.length * 1) = C at *
    go_simp
    refine hK _ _ (nd_0101 hpan hq hR hl (hb.alloc hb.size _) ?_)
    exact Hp.more (k := 2) hH (a' := .row 3 1 (.slice (some ⟨w.heap.size, 0, none⟩) l.length l.length) l.length (lcells (List.replicate l.length 0))) rfl (ext_alloc w _) hown.out (fun g hg => by have e : w.heap.size = g := Option.some.inj hg; omega) (fun j hj => by match j with | 0 | 1 | 3 | 4 | 5 | 6 => rfl | 2 => exact absurd rfl hj | _ + 7 => rfl) rfl
  · refine held_op (o := ⟨some 11, .makeSlice 31 (.const (.int .i64 1536)) (.const (.int .i64 1536)), _, _, _, none⟩) rfl rfl ?_
    intro K hK
    have hmk : ∀ w, (Instr.makeSlice 31 (.int .i64 1536) (.int .i64 1536)).run Tryd.prog w = .ok (.slice (some ⟨w.heap.size, 0, none⟩) 1536 1536) (w.alloc (.cells (madeCells (Value.int .i64 0).cells (1536 * 1)) 3)) := fun w => run_mk pintEI (z := .int .i64 0) (by kernel_rfl) 1536 (by omega) (by omega) w
    have hown := Lib.hid (own_mk w w0.heap.size 1 1536 3 #[.int .i64 0] hb.size (by omega))
    replace hown := Lib.hid (by have := hown.out; rwa [zeros_int] at this)
    simp only [Value.cells] at hmk
    generalize madeCells _ (1536 * 1) = C at *
    go_simp
    refine hK _ _ (nd_0011 hpan hq hR hl (hb.alloc hb.size _) ?_)
    exact Hp.more (k := 4) hH (a' := .row 3 1 (.slice (some ⟨w.heap.size, 0, none⟩) 1536 1536) 1536 (lcells (List.replicate 1536 0))) rfl (ext_alloc w _) hown.out (fun g hg => by have e : w.heap.size = g := Option.some.inj hg; omega) (fun j hj => by match j with | 0 | 1 | 2 | 3 | 5 | 6 => rfl | 4 => exact absurd rfl hj | _ + 7 => rfl) rfl

set_option maxHeartbeats 2000000 in
set_option maxRecDepth 100000 in
theorem nd_0000 {l : List Em.R} {A : Option Addr} {c : Nat} {w0 w : World} {Q : Exit → Act → World → Prop} (hpan : PanQ Q) (hq : StartQ l A c w0 Q) (hR : Row w0 w0.heap.size 4 A l.length (acells l)) (hl : l.length ≤ 1000000) (hb : Below w0.heap.size w0 w)
    (hH : Hp w w0.heap.size (mk4 none none none none)) : wpAnyH Tryd.prog .any mops Q (fun _ => True) 6 #[true, false, true, true, false, false, false, false, false] ⟨(.slice A l.length c :: undef :: .slice none 0 0 :: undef :: undef :: undef :: .slice A l.length c :: undef :: .slice A l.length c :: .int .i64 (l.length : Int) :: undef :: undef :: undef :: undef :: undef :: undef :: undef :: undef :: undef :: undef :: undef :: undef :: undef :: undef :: undef :: undef :: undef :: undef :: undef :: undef :: undef :: undef :: undef :: undef :: undef :: undef :: undef :: undef :: undef :: undef :: undef :: undef :: undef :: undef :: undef :: undef :: undef :: undef :: undef :: undef :: []).toArray, []⟩ w := by
  refine held_node [1, 4, 5, 7] (by kernel_rfl) (by simp) ?_
  intro i hi
  have hi2 : i = 1 ∨ i = 4 ∨ i = 5 ∨ i = 7 := by simpa using hi
  clear hi
  rcases hi2 with rfl | rfl | rfl | rfl
  · refine held_op (o := ⟨some 7, .call { callee := .value (.func 20), args := #[.tmp 6], argTypes := #[24] }, _, _, _, none⟩) rfl rfl ?_
    intro K hK
    go_simp
    refine (pheld_any l A c w (hR.ext hb) hl).mono ?_
    rintro e w2 ⟨⟨vr, rfl, hown⟩, hb2⟩
    refine hK _ _ (nd_1000 hpan hq hR hl (ext_trans hb hb2) ?_)
    exact Hp.more (k := 1) hH (a' := .row 29 4 vr l.length (acells (Em.hold l))) rfl hb2 (own_base hown hb.size) (fun g hg => (hown.lt g hg).1) (fun j hj => by match j with | 0 | 2 | 3 | 4 | 5 | 6 => rfl | 1 => exact absurd rfl hj | _ + 7 => rfl) rfl
  · refine held_op (o := ⟨some 10, .makeSlice 31 (.tmp 9) (.tmp 9), _, _, _, none⟩) rfl rfl ?_
    intro K hK
    have hmk := fun w => run_mk pintEI (z := .int .i64 0) (by kernel_rfl) l.length (by omega) (by omega) w
    have hown := Lib.hid (own_mk w w0.heap.size 1 l.length 3 #[.int .i64 0] hb.size (by omega))
    replace hown := Lib.hid (by have := hown.out; rwa [zeros_int] at this)
    simp only [Value.cells] at hmk
    generalize madeCells _ (l.length * 1) = C at *
    go_simp
    refine hK _ _ (nd_0100 hpan hq hR hl (hb.alloc hb.size _) ?_)
    exact Hp.more (k := 2) hH (a' := .row 3 1 (.slice (some ⟨w.heap.size, 0, none⟩) l.length l.length) l.length (lcells (List.replicate l.length 0))) rfl (ext_alloc w _) hown.out (fun g hg => by have e : w.heap.size = g := Option.some.inj hg; omega) (fun j hj => by match j with | 0 | 1 | 3 | 4 | 5 | 6 => rfl | 2 => exact absurd rfl hj | _ + 7 => rfl) rfl
  · refine held_op (o := ⟨some 11, .makeSlice 31 (.const (.int .i64 1536)) (.const (.int .i64 1536)), _, _, _, none⟩) rfl rfl ?_
    intro K hK
    have hmk : ∀ w, (Instr.makeSlice 31 (.int .i64 1536) (.int .i64 1536)).run Tryd.prog w = .ok (.slice (some ⟨w.heap.size, 0, none⟩) 1536 1536) (w.alloc (.cells (madeCells (Value.int .i64 0).cells (1536 * 1)) 3)) := fun w => run_mk pintEI (z := .int .i64 0) (by kernel_rfl) 1536 (by omega) (by omega) w
    have hown := Lib.hid (own_mk w w0.heap.size 1 1536 3 #[.int .i64 0] hb.size (by omega))
    replace hown := Lib.hid (by have := hown.out; rwa [zeros_int] at this)
    simp only [Value.cells] at hmk
    generalize madeCells _ (1536 * 1) = C at *
    go_simp
    refine hK _ _ (nd_0010 hpan hq hR hl (hb.alloc hb.size _) ?_)
    exact Hp.more (k := 4) hH (a' := .row 3 1 (.slice (some ⟨w.heap.size, 0, none⟩) 1536 1536) 1536 (lcells (List.replicate 1536 0))) rfl (ext_alloc w _) hown.out (fun g hg => by have e : w.heap.size = g := Option.some.inj hg; omega) (fun j hj => by match j with | 0 | 1 | 2 | 3 | 5 | 6 => rfl | 4 => exact absurd rfl hj | _ + 7 => rfl) rfl
  · refine held_op (o := ⟨some 3, .alloc 59, _, _, _, none⟩) rfl rfl ?_
    intro K hK
    go_simp
    refine hK _ _ (nd_0001 hpan hq hR hl (hb.alloc hb.size _) ?_)
    exact Hp.more (k := 0) hH (a' := .blk w.heap.size mzero 59) rfl (ext_alloc w _) ⟨hb.size, heap_alloc_new w _⟩ (fun g hg => by have e : w.heap.size = g := Option.some.inj hg; omega) (fun j hj => by match j with | 0 => exact absurd rfl hj | 1 | 2 | 3 | 4 | 5 | 6 => rfl | _ + 7 => rfl) rfl

set_option maxHeartbeats 2000000 in
set_option maxRecDepth 100000 in
/-- the whole region -/
theorem pm_start {l : List Em.R} {A : Option Addr} {c : Nat} {w0 : World} {Q : Exit → Act → World → Prop} (hpan : PanQ Q) (hq : StartQ l A c w0 Q) (hR : Row w0 w0.heap.size 4 A l.length (acells l)) (hl : l.length ≤ 1000000) :
    Code.wp Tryd.prog (regionAt Tryd.f13 1) Q ⟨(.slice A l.length c :: undef :: .slice none 0 0 :: undef :: undef :: undef :: undef :: undef :: undef :: undef :: undef :: undef :: undef :: undef :: undef :: undef :: undef :: undef :: undef :: undef :: undef :: undef :: undef :: undef :: undef :: undef :: undef :: undef :: undef :: undef :: undef :: undef :: undef :: undef :: undef :: undef :: undef :: undef :: undef :: undef :: undef :: undef :: undef :: undef :: undef :: undef :: undef :: undef :: undef :: undef :: []).toArray, []⟩ w0 := by
  show Code.wp Tryd.prog (Code.region 1 mops true) Q _ w0
  refine wp_region_held (S := fun _ => True) (by kernel_rfl) ?_
  show wpAnyH Tryd.prog .any mops Q (fun _ => True) 9 #[false, false, false, false, false, false, false, false, false] _ _
  refine held_rd (i := 0) (o := ⟨some 6, .move (.tmp 0), _, _, _, none⟩) (.slice A l.length c) rfl rfl (by kernel_rfl) (by kernel_rfl) (by kernel_rfl) hpan (fun w' => by go_simp) ?_
  refine held_rd (i := 2) (o := ⟨some 8, .move (.tmp 0), _, _, _, none⟩) (.slice A l.length c) rfl rfl (by kernel_rfl) (by kernel_rfl) (by kernel_rfl) hpan (fun w' => by go_simp) ?_
  refine held_rd (i := 3) (o := ⟨some 9, .call { callee := .builtin .len, args := #[.tmp 8], argTypes := #[24] }, _, _, _, none⟩) (.int .i64 (l.length : Int)) rfl rfl (by kernel_rfl) (by kernel_rfl) (by kernel_rfl) hpan (fun w' => by go_simp) ?_
  exact nd_0000 hpan hq hR hl (Below.refl _ _).drew (mk4_none _ _)
end Go.Proofs.YtboeaofcioolnaaDoor
end
