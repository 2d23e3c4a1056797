/- Package emph: Kind: the runes around a run, and what the run is. Law 10's own helps: kinds: the program's judging held against the document's. Law 10's own helps: matches: the program's pairs held against the document's. What the program's Match does is a premise here. Package emph: Match: the pairs that runs make: the document's own. What package inline's Parse and Text do, said once. Law 12's own help: known: some of chapter 12's runs. selvedgelaw12.made as a function: which text it makes of a row of bytes. -/
import Derived.Test.YtkfhkfagmokjpaaDoorMn12
import Derived.Test.YtkfhkfagmokjpaaDoorMn16
import Derived.Test.YtkfhkfagmokjpaaDoorMn10
import Derived.Deep.DeepCutAuto
import Derived.Test.YtkfhkfagmokjpaaDoorMn13
import Derived.ProofKit
namespace Go.Proofs.YtkfhkfagmokjpaaDoor
open Go.RowKit

theorem runes_hd {l : List UInt8} {j : Nat} (h : j < l.length) : hdR (l.drop j) = Em.behind l j := by
  unfold hdR
  rw [Em.behind_in h, Ru.runes_step (by intro he; have := congrArg List.length he; simp at this; omega)]
  rfl
theorem runes_lt {l : List UInt8} {k : Nat} (h : 0 < k) (hk : k ≤ l.length) : ltR (l.take k) = Em.ahead l k := by
  unfold ltR Em.ahead
  rcases List.eq_nil_or_concat (Ru.runes (l.take k)) with he | ⟨r, x, he⟩
  · have := congrArg List.length (Ru.runes_eq_nil.1 he)
    rw [List.length_take, Nat.min_eq_left hk, List.length_nil] at this; omega
  · rw [he]; simp

set_option maxHeartbeats 2000000 in
set_option maxRecDepth 100000 in
theorem paround_any (l : List UInt8) (k j : Nat) (hs : l.length ≤ 1000000000000) (hk : k ≤ l.length) (hj : j ≤ l.length) (w : World) (hT : Tabs w) :
    Calls Tryd.prog 54 #[.string (bs l), .int .i64 (k : Int), .int .i64 (j : Int)] w fun e w' => e = .returned (.tuple #[.int .i32 (Em.ahead l k : Int), .int .i32 (Em.behind l j : Int)]) ∧ Below w.heap.size w w' := by
  have hu := fun w => run_upto (S := l) hk w
  have hf := fun w => run_from (S := l) hj w
  obtain ⟨A, hA⟩ : ∃ A, A = Em.ahead l k := ⟨_, rfl⟩
  obtain ⟨B, hB⟩ : ∃ B, B = Em.behind l j := ⟨_, rfl⟩
  have q1 : (A = 32 ∧ ∀ w : World, Calls Tryd.prog 65 #[.string (bs (l.take k))] w fun e w' => e = .returned (.tuple #[.int .i32 0, .bool false]) ∧ Below w.heap.size w w') ∨
      (∀ w : World, Tabs w → Calls Tryd.prog 65 #[.string (bs (l.take k))] w fun e w' => e = .returned (.tuple #[.int .i32 (A : Int), .bool true]) ∧ Below w.heap.size w w') := by
    rcases Nat.eq_zero_or_pos k with h0 | h0
    · subst h0
      exact .inl ⟨hA, fun w => last_none w⟩
    · refine .inr fun w hw => ?_
      rw [hA, ← runes_lt h0 hk]
      exact last_some (l.take k) (by intro he; have := congrArg List.length he; rw [List.length_take, Nat.min_eq_left hk, List.length_nil] at this; omega) w (by simp; omega) hw
  have q2 : (B = 32 ∧ ∀ w : World, Calls Tryd.prog 66 #[.string (bs (l.drop j))] w fun e w' => e = .returned (.tuple #[.int .i32 0, .bool false]) ∧ Below w.heap.size w w') ∨
      (∀ w : World, Calls Tryd.prog 66 #[.string (bs (l.drop j))] w fun e w' => e = .returned (.tuple #[.int .i32 (B : Int), .bool true]) ∧ Below w.heap.size w w') := by
    rcases Nat.lt_or_ge j l.length with h0 | h0
    · refine .inr fun w => ?_
      rw [hB, ← runes_hd h0]
      exact first_some (l.drop j) (by intro he; have := congrArg List.length he; simp at this; omega) w
    · refine .inl ⟨by rw [hB, Em.behind_out (by omega)], fun w => ?_⟩
      rw [List.drop_of_length_le h0]
      exact first_none w
  rw [← hA, ← hB]
  clear hA hB hk hj hs
  generalize l.take k = T1 at *
  generalize l.drop j = T2 at *
  replace hT := Lib.hid hT
  rcases q1 with ⟨rfl, q1⟩ | q1
  · rcases q2 with ⟨rfl, q2⟩ | q2
    all_goals
      go_enter Tryd.func54, Tryd.ntmps54
      go_wp2_with fail
      refine (q1 _).mono ?_
      rintro e w1 ⟨rfl, hb1⟩
      replace hb1 := Lib.hid hb1
      go_wp2_with fail
      refine (q2 _).mono ?_
      rintro e w2 ⟨rfl, hb2⟩
      replace hb2 := Lib.hid (ext_trans hb1.out hb2)
      go_wp2_with fail
      go_ret2
      exact ⟨rfl, hb2.out⟩
  · rcases q2 with ⟨rfl, q2⟩ | q2
    all_goals
      go_enter Tryd.func54, Tryd.ntmps54
      go_wp2_with fail
      refine (q1 _ hT.out).mono ?_
      rintro e w1 ⟨rfl, hb1⟩
      replace hb1 := Lib.hid hb1
      go_wp2_with fail
      refine (q2 _).mono ?_
      rintro e w2 ⟨rfl, hb2⟩
      replace hb2 := Lib.hid (ext_trans hb1.out hb2)
      go_wp2_with fail
      go_ret2
      exact ⟨rfl, hb2.out⟩

set_option maxHeartbeats 4000000 in
set_option maxRecDepth 100000 in
theorem pkind_off (l : List UInt8) (at_ : Int) (hs : l.length ≤ 1000000000000) (h0 : Em.starts l at_ = false) (w : World) :
    Calls Tryd.prog 39 #[.string (bs l), .int .i64 at_] w fun e w' => e = .returned (kindV none) ∧ Below w.heap.size w w' := by
  have q := fun w => pbegins_any l at_ hs w
  rw [h0] at q
  clear h0
  go_enter Tryd.func39, Tryd.ntmps39
  go_wp2_with fail
  refine (q _).mono ?_
  rintro e w1 ⟨rfl, hb1⟩
  clear q
  obtain ⟨z0, z1, z2, z3, z4⟩ := blk_open hb1
  replace hb1 := Lib.hid hb1
  go_wp2_with fail
  exact bodyPost_ret (v := kindV none) (by rw [results_cell_tmp2 rfl]; go_simp; rfl) rfl ⟨rfl, blk_done hb1.out _ _ _ _⟩

theorem set2 {w w5 : World} {g : Nat} {a b c d v : Value} {t : TypeId} (h : w.heap[g]? = some (.cells #[a, b, c, d] t (0, 0))) (hw : w.setCell ⟨g, 2, none⟩ v = w5) : w5.heap[g]? = some (.cells #[a, b, v, d] t (0, 0)) := by
  rw [← hw]; exact heap_setCell_same w g 2 _ _ v h
theorem set3 {w w5 : World} {g : Nat} {a b c d v : Value} {t : TypeId} (h : w.heap[g]? = some (.cells #[a, b, c, d] t (0, 0))) (hw : w.setCell ⟨g, 3, none⟩ v = w5) : w5.heap[g]? = some (.cells #[a, b, c, v] t (0, 0)) := by
  rw [← hw]; exact heap_setCell_same w g 3 _ _ v h
theorem set_below {B : Nat} {a w w5 : World} {p : Addr} {v : Value} (h : Below B a w) (hg : B ≤ p.block) (hw : w.setCell p v = w5) : Below B a w5 := by rw [← hw]; exact h.setCell hg v

set_option maxHeartbeats 4000000 in
set_option maxRecDepth 100000 in
theorem pkind_on (l : List UInt8) (k n : Nat) (c : UInt8) (hs : l.length ≤ 1000000000000) (hk : k < l.length) (hc : l[k] = c) (hn : n = Fn.run c (l.drop k)) (h0 : Em.starts l (k : Int) = true) (t : Bool) (ht : ((c.toNat : Int) == 95) = t) (J : Em.R)
    (hJ : J = Em.judge c n (Em.ahead l k) (Em.behind l (k + n))) (w : World) (hT : Tabs w) :
    Calls Tryd.prog 39 #[.string (bs l), .int .i64 (k : Int)] w fun e w' => e = .returned (kindV (some (J, k + n))) ∧ Below w.heap.size w w' := by
  have hin : k + n ≤ l.length := by rw [hn, ← hc]; exact Em.runs_in hk _
  have q1 := fun w => pbegins_any l (k : Int) hs w
  have q2 := fun w => prun_any l k c w hs (by omega)
  have q3 := fun w hw => paround_any l k (k + n) hs (by omega) hin w hw
  have hix := fun w => run_byte hk w
  rw [← hn] at q2
  rw [hc] at hix
  rw [h0] at q1
  have hwr : IntKind.i64.wrap ((k : Int) + (n : Int)) = ((k + n : Nat) : Int) := by rw [IntKind.wrap_i64]; omega
  obtain ⟨m, hm⟩ : ∃ m, m = k + n := ⟨_, rfl⟩
  rw [← hm] at hwr q3 hJ ⊢
  obtain ⟨b, hb⟩ : ∃ b, b = Em.ahead l k := ⟨_, rfl⟩
  obtain ⟨a, ha⟩ : ∃ a, a = Em.behind l m := ⟨_, rfl⟩
  rw [← hb, ← ha] at q3 hJ
  have q4 := fun w => pleans_any a b w
  have q5 := fun w => pleans_any b a w
  have q6 := fun w => punct_any (b : Int) w
  have q7 := fun w => punct_any (a : Int) w
  have hJ0 : t = false → J = ⟨c, n, Em.leanB b a, Em.leanB a b⟩ := by
    intro h
    rw [hJ]; unfold Em.judge
    rw [if_neg]
    rintro rfl; rw [h] at ht; exact absurd ht (by decide)
  have hJ1 : t = true → J = ⟨c, n, Em.leanB b a && (!Em.leanB a b || punctB b), Em.leanB a b && (!Em.leanB b a || punctB a)⟩ := by
    intro h
    rw [hJ]; unfold Em.judge
    rw [if_pos]
    rw [h] at ht
    have h1 : (c.toNat : Int) = 95 := by simpa using ht
    have h2 : (95 : UInt8).toNat = 95 := rfl
    exact UInt8.toNat_inj.1 (by omega)
  clear hJ hn hc h0
  obtain ⟨x, hx⟩ : ∃ x, x = Em.leanB b a := ⟨_, rfl⟩
  obtain ⟨y, hy⟩ : ∃ y, y = Em.leanB a b := ⟨_, rfl⟩
  obtain ⟨PB, hPB⟩ : ∃ y, y = punctB b := ⟨_, rfl⟩
  obtain ⟨PA, hPA⟩ : ∃ y, y = punctB a := ⟨_, rfl⟩
  rw [← hx] at q4 hJ0 hJ1
  rw [← hy] at q5 hJ0 hJ1
  rw [← hPB] at q6 hJ1
  rw [← hPA] at q7 hJ1
  clear hx hy hPB hPA ha hb
  have hkn : k ≤ 1000000000000 := by omega
  have hnn : n ≤ 1000000000000 := by omega
  clear hin hm hk hs
  replace hT := Lib.hid hT
  replace hJ0 := Lib.hid hJ0
  replace hJ1 := Lib.hid hJ1
  go_enter Tryd.func39, Tryd.ntmps39
  go_wp2_with fail
  refine (q1 _).mono ?_
  rintro e w1 ⟨rfl, hb1⟩
  have hA := Lib.hid (ext_trans (ext_alloc w _) hb1)
  replace hb1 := Lib.hid hb1
  go_wp2_with fail
  refine (q2 _).mono ?_
  rintro e w2 ⟨rfl, rfl⟩
  go_wp2_with fail
  refine (q3 _ (tabs_below hT.out hA.out)).mono ?_
  rintro e w2 ⟨rfl, hb2⟩
  replace hb1 := Lib.hid (ext_trans hb1.out hb2)
  replace hA := Lib.hid (ext_trans hA.out hb2)
  go_wp2_with fail
  refine (q4 _).mono ?_
  rintro e w3 ⟨rfl, rfl⟩
  go_wp2_with fail
  refine (q5 _).mono ?_
  rintro e w3 ⟨rfl, rfl⟩
  clear q1 q2 q3 q4 q5
  go_upto_region 9 with fail
  generalize hw4 : World.alloc w2 _ = w4
  have h4 : w4.heap[w2.heap.size]? = some (.cells #[.int .u8 (c.toNat : Int), .int .i64 (n : Int), .bool x, .bool y] 75 (0, 0)) := by rw [← hw4]; exact heap_alloc_new _ _
  have hA4 := ext_trans hA.out (show Below w2.heap.size w2 w4 from by rw [← hw4]; exact ext_alloc _ _)
  have hb4 := ext_trans hb1.out (show Below w2.heap.size w2 w4 from by rw [← hw4]; exact ext_alloc _ _)
  have hg2 := hb1.out.size
  clear hw4 hb2 hb1
  cases t with
  | false =>
    have hJ := hJ0.out rfl
    clear hJ0 hJ1
    subst hJ
    obtain ⟨y0, y1, y2, y3⟩ := four h4
    obtain ⟨z0, z1, z2, z3, z4⟩ := blk_open hb4
    replace hb4 := Lib.hid hb4
    replace h4 := Lib.hid h4
    go_wp2_with fail
    exact bodyPost_ret (v := kindV (some (⟨c, n, x, y⟩, m))) (by rw [results_cell_tmp2 rfl]; unfold kindV aval; go_simp) rfl ⟨rfl, blk_done hb4.out _ _ _ _⟩
  | true =>
    have hJ := hJ1.out rfl
    clear hJ0 hJ1
    subst hJ
    have hfz : ∀ j, w4.frozen? ⟨w2.heap.size, j, none⟩ = false := blk_free h4
    obtain ⟨y0, y1, y2, y3⟩ := four h4
    replace hb4 := Lib.hid hb4
    replace h4 := Lib.hid h4
    cases x <;> cases y
    all_goals
      go_upto_region 11 with (go_at_call 56; refine (q6 _).mono ?_; rintro e w5 ⟨rfl, rfl⟩)
      generalize hw5 : World.setCell w4 _ _ = w5
      have k5 := set2 h4.out hw5
      have kb5 := set_below hb4.out hg2 hw5
      clear hw5 y0 y1 y2 y3 hfz
      have hfz : ∀ j, w5.frozen? ⟨w2.heap.size, j, none⟩ = false := blk_free k5
      obtain ⟨y0, y1, y2, y3⟩ := four k5
      replace k5 := Lib.hid k5
      replace kb5 := Lib.hid kb5
      go_upto_region 12 with (go_at_call 56; refine (q7 _).mono ?_; rintro e w5 ⟨rfl, rfl⟩)
      generalize hw6 : World.setCell w5 _ _ = w6
      have k6 := set3 k5.out hw6
      have kb6 := set_below kb5.out hg2 hw6
      clear hw6 y0 y1 y2 y3 hfz
      obtain ⟨y0, y1, y2, y3⟩ := four k6
      obtain ⟨z0, z1, z2, z3, z4⟩ := blk_open kb6
      replace kb6 := Lib.hid kb6
      replace k6 := Lib.hid k6
      go_wp2_with fail
      exact bodyPost_ret (by rw [results_cell_tmp2 rfl]; unfold kindV aval; go_simp) rfl ⟨rfl, blk_done kb6.out _ _ _ _⟩

theorem kindV_form (x : Option (Em.R × Nat)) : ∃ (ch : UInt8) (n : Int) (o c : Bool) (e : Nat) (ok : Bool), kindV x = .tuple #[.agg #[.int .u8 (ch.toNat : Int), .int .i64 n, .bool o, .bool c], .int .i64 (e : Int), .bool ok] := by
  cases x with
  | none => exact ⟨0, 0, false, false, 0, false, rfl⟩
  | some x => exact ⟨x.1.ch, x.1.n, x.1.o, x.1.c, x.2, true, rfl⟩

/-- a run is judged as the document says: for every text, every place -/
theorem pkind_any (l : List UInt8) (at_ : Int) (hs : l.length ≤ 1000000000000) (w : World) (hT : Tabs w) :
    Calls Tryd.prog 39 #[.string (bs l), .int .i64 at_] w fun e w' => e = .returned (kindV (Em.kind l at_)) ∧ Below w.heap.size w w' := by
  cases h0 : Em.starts l at_ with
  | false =>
    rw [Em.kind_off h0]
    exact pkind_off l at_ hs h0 w
  | true =>
    obtain ⟨h1, h2, _⟩ := of_decide_eq_true h0
    obtain ⟨k, rfl⟩ : ∃ k : Nat, at_ = (k : Int) := ⟨at_.toNat, by omega⟩
    have hk : k < l.length := by omega
    rw [Em.kind_on hk h0]
    exact pkind_on l k _ _ hs hk rfl rfl h0 _ rfl _ rfl w hT
end Go.Proofs.YtkfhkfagmokjpaaDoor

namespace Go.Proofs.YtkfhkfagmokjpaaDoor
open Go.RowKit

/-- a run by a byte -/
def runOf (b : UInt8) : Em.R := ⟨if b.toNat % 2 = 0 then 42 else 95, ((b.toNat / 2 % 4 : Nat) : Int), b.toNat / 8 % 2 == 1, b.toNat / 16 % 2 == 1⟩
def runsOf (ks : List UInt8) : List Em.R := (ks.take 30).map runOf
theorem runsOf_len (ks : List UInt8) : (runsOf ks).length ≤ 30 := by unfold runsOf; rw [List.length_map, List.length_take]; omega
theorem runsOf_step {ks : List UInt8} {k : Nat} (h : k < ks.length) : (ks.take (k + 1)).map runOf = (ks.take k).map runOf ++ [runOf ks[k]] := by
  rw [List.take_succ_eq_append_getElem h, List.map_append]; rfl
theorem acells_snoc (l : List Em.R) (x : Em.R) : acells (l ++ [x]) = acells l ++ acell x := by simp [acells]
theorem prunEI : EI Tryd.prog 52 75 4 24 := EI.mk' Tryd.underlying52 (z := .agg #[.int .u8 0, .int .i64 0, .bool false, .bool false]) (by kernel_rfl) rfl (by omega)
end Go.Proofs.YtkfhkfagmokjpaaDoor

namespace Go.Proofs.YtkfhkfagmokjpaaDoor
open Go.RowKit

/-- what package emph's Match does -/
def PMatch : Prop := ∀ (l : List Em.R) (A : Option Addr) (c : Nat) (w : World), Row w w.heap.size 4 A l.length (acells l) → l.length ≤ 4000000 →
  Calls Tryd.prog 26 #[.slice A l.length c] w fun e w' => (∃ v, e = .returned v ∧ w'.ownsRow w.heap.size 77 3 v (Em.pairs l).length (pcells (Em.pairs l))) ∧ Below w.heap.size w w'

/-- a row of pairs, as it is read -/
def PairsAt (X : List (Nat × Nat × Nat)) (g : Nat) (w : World) : Prop := ∀ k (hk : k < X.length), w.cell? ⟨g, k * 3, none⟩ = some (.int .i64 (X[k].1 : Int)) ∧ w.cell? ⟨g, k * 3 + 1, none⟩ = some (.int .i64 (X[k].2.1 : Int)) ∧ w.cell? ⟨g, k * 3 + 2, none⟩ = some (.int .i64 (X[k].2.2 : Int))
theorem pairsAt_own {X : List (Nat × Nat × Nat)} {w : World} {B n g c : Nat} {E : TypeId} (h : w.ownsRow B E 3 (.slice (some ⟨g, 0, none⟩) n c) n (pcells X)) : PairsAt X g w := by
  intro k hk
  have hat := fun i (hi : i < 3) => flat_at (f := pcell) (m := 3) (fun _ => rfl) X k i hk hi
  have go := fun j v (hj : (pcells X)[j]? = some v) => h.cells (g := g) rfl j v hj
  have ea : ∀ j, (⟨g, 0, none⟩ : Addr).add j = ⟨g, j, none⟩ := fun j => by unfold Addr.add; split <;> simp_all
  exact ⟨by have := go (k * 3 + 0) _ ((hat 0 (by omega)).trans rfl); rwa [ea] at this, by have := go (k * 3 + 1) _ ((hat 1 (by omega)).trans rfl); rwa [ea] at this, by have := go (k * 3 + 2) _ ((hat 2 (by omega)).trans rfl); rwa [ea] at this⟩

end Go.Proofs.YtkfhkfagmokjpaaDoor

namespace Go.Proofs.YtkfhkfagmokjpaaDoor
open Go.RowKit

set_option maxHeartbeats 8000000 in
set_option maxRecDepth 100000 in
theorem pmatch_any (l : List Em.R) (A : Option Addr) (c : Nat) (w : World) (h : Row w w.heap.size 4 A l.length (acells l)) (hl : l.length ≤ 4000000) :
    Calls Tryd.prog 26 #[.slice A l.length c] w fun e w' => (∃ v, e = .returned v ∧ w'.ownsRow w.heap.size 77 3 v (Em.pairs l).length (pcells (Em.pairs l))) ∧ Below w.heap.size w w' := by
  have hR := Lib.hid h
  clear h
  go_enter Tryd.func26, Tryd.ntmps26
  go_upto_region 1 with fail
  refine pm_start (l := l) (A := A) (c := c) (fun _ _ d _ _ h => by cases d <;> exact h) ?_ hR.out hl
  intro b v v12 w1 hM1 hB1
  have hlh : (Em.hold l).length = l.length := by simp [Em.hold]
  have hH := Lib.hid (Em.hold_held l)
  obtain ⟨fin, hfin⟩ : ∃ fin, fin = Em.outer (Em.hold l) l.length 0 ((Em.hold l).map (fun r => Em.held r.n), []) := ⟨_, rfl⟩
  have hres : Hid (fin.2 = Em.pairs l) := Lib.hid (by rw [← Em.pairs_hold l, hfin]; unfold Em.pairs; rw [hlh])
  have hS0 := Em.sim_start (Em.hold l)
  rw [hlh] at hS0
  obtain ⟨vr, vl, vo, vn, vp⟩ := v
  obtain ⟨Ar, cr, hvr, hcr⟩ := own_shape hM1.rowr
  obtain ⟨_, hbw1, hfz1, m0, m1, m2, m3, m4⟩ := hM1.blk
  simp only [hlh] at hvr m0 hcr
  subst hvr
  replace hM1 := Lib.hid hM1
  replace hB1 := Lib.hid hB1
  replace hS0 := Lib.hid hS0
  replace hfin := Lib.hid hfin
  clear m1 m2 m3 m4 hfz1
  go_wp2_with fail
  go_loopw [16] (fun u wr => ∃ (k : Nat) (st : Em.St) (v : Vs) (L O N : List Nat), k ≤ l.length ∧ u = .int .i64 k ∧ Hid (v.r = .slice Ar l.length cr) ∧ Hid (PM w.heap.size b none v (Em.hold l) L O N st.2 wr) ∧ Hid (Em.SimB (Em.hold l) k st L O N) ∧
      Hid (Em.outer (Em.hold l) (l.length - k) k st = fin) ∧ Hid (Below w.heap.size w wr)) (fun u _ => l.length - (intOf u).toNat)
  case atStart => exact ⟨0, _, _, _, _, _, Nat.zero_le _, rfl, Lib.hid rfl, hM1, hS0, Lib.hid hfin.out.symm, hB1⟩
  case round =>
    obtain ⟨k, st, v, L, O, N, hk, rfl, hvr, hM, hS, hfi, hB⟩ := hrel
    clear hM1 hB1 hS0 hfin m0 hbw1
    by_cases hkl : k < l.length
    · have hfi2 : Hid (Em.outer (Em.hold l) (l.length - (k + 1)) (k + 1) (Em.inner (Em.hold l) k st) = fin) := Lib.hid (by
        have h1 := hfi.out
        rw [show l.length - k = (l.length - (k + 1)) + 1 by omega] at h1
        exact h1)
      clear hfi
      have hkh : k < (Em.hold l).length := by rw [hlh]; exact hkl
      obtain ⟨r, hr⟩ : ∃ r, r = (Em.hold l)[k] := ⟨_, rfl⟩
      have hgr : Hid (Em.get (Em.hold l) k = r) := Lib.hid (by rw [Em.get_at hkh, hr])
      have hrn := hH.out r (by rw [hr]; exact List.getElem_mem hkh)
      obtain ⟨n, hn⟩ : ∃ n : Nat, n = Em.held r.n := ⟨_, rfl⟩
      have hnr : r.n = (n : Int) := by rw [hn]; exact (Em.held_in hrn.1 hrn.2).symm
      have hS2 := Em.sim_in hS.out hkh
      rw [hgr.out, ← hn] at hS2
      have hMr := hM.out
      obtain ⟨vr, vl, vo, vn, vp⟩ := v
      have hvr' := hvr.out
      obtain ⟨gl, cl, hvl, hcl, hBl, hgl⟩ := own_some hMr.rowl (by rw [hS.out.1.len, hlh]; omega)
      have hLl : L.length = l.length := by rw [hS.out.1.len, hlh]
      simp only at hvr' hvl
      subst hvr' hvl
      obtain ⟨gr, rfl⟩ : ∃ g, Ar = some ⟨g, 0, none⟩ := by
        obtain ⟨g, c', hv, _⟩ := own_some hMr.rowr (by rw [hlh]; omega)
        injection hv with h1 _ _
        exact ⟨g, h1⟩
      have hrr := hMr.rowr
      simp only [hlh] at hrr
      obtain ⟨x0, x1, x2, x3⟩ := own_cell4 hrr hkh
      rw [← hr] at x0 x1 x2 x3
      have hgrw := (hrr.lt _ rfl).2
      replace hr := Lib.hid hr
      replace hn := Lib.hid hn
      replace hS2 := Lib.hid hS2
      have hBz := hB.out.size
      clear hrr hM hS hvr
      go_upto_region 5 with fail
      generalize hw2 : World.alloc wr _ = w2
      have hM2 : PM w.heap.size b (some (.blk wr.heap.size #[.int .u8 (r.ch.toNat : Int), .int .i64 (n : Int), .bool r.o, .bool r.c] 75)) ⟨.slice (some ⟨gr, 0, none⟩) l.length cr, .slice (some ⟨gl, 0, none⟩) L.length cl, vo, vn, vp⟩ (Em.hold l) L O N st.2 w2 := by rw [← hw2]; exact hMr.more _ _ hBz
      have hB2 : Below w.heap.size w w2 := by rw [← hw2]; exact hB.out.alloc hBz _
      clear hw2 x0 x1 x2 x3 hMr hB hgl
      have hloc2 := hM2.extra
      obtain ⟨y0, y1, y2, y3⟩ := four hloc2
      obtain ⟨hB2', hbw2, hfz2, m0, m1, m2, m3, m4⟩ := hM2.blk
      have hrl2 := hM2.rowl
      simp only [hLl] at m0 m1 hrl2
      have lf2 := fun j => hrl2.frozenAt j
      have lv2 := own_int hrl2 (k := k) (by omega)
      have hgl2 := (hrl2.lt _ rfl).2
      have hM3' := Lib.hid (hM2.setL (g := gl) (c := cl) rfl k n)
      replace hM2 := Lib.hid hM2
      replace hB2 := Lib.hid hB2
      replace hrl2 := Lib.hid hrl2
      clear hloc2 m0 m2 m3 m4 y0 y2 y3
      go_upto_region 6 with fail
      generalize hw3 : World.setCell w2 _ _ = w3
      have hM3 : PM w.heap.size b (some (.blk wr.heap.size #[.int .u8 (r.ch.toNat : Int), .int .i64 (n : Int), .bool r.o, .bool r.c] 75)) ⟨.slice (some ⟨gr, 0, none⟩) l.length cr, .slice (some ⟨gl, 0, none⟩) L.length cl, vo, vn, vp⟩ (Em.hold l) (L.set k n) O N st.2 w3 := by rw [← hw3]; exact hM3'.out
      have hB3 : Below w.heap.size w w3 := by rw [← hw3]; exact hB2.out.setCell (p := ⟨gl, k, none⟩) hBl _
      clear hw3 hM3' hM2 hB2 hrl2 lf2 lv2 y1 m1 hfz2 hbw2
      obtain ⟨y0, y1, y2, y3⟩ := four hM3.extra
      cases hcc : r.c with
      | false =>
        rw [hcc] at y3
        have hmid : Hid (∃ v' : Vs, v'.r = .slice (some ⟨gr, 0, none⟩) l.length cr ∧ ∃ L' O' N', PM w.heap.size b (some (.blk wr.heap.size #[.int .u8 (r.ch.toNat : Int), .int .i64 (n : Int), .bool r.o, .bool r.c] 75)) v' (Em.hold l) L' O' N' (Em.inner (Em.hold l) k st).2 w3 ∧ Em.SimI (Em.hold l) k (Em.inner (Em.hold l) k st) L' O' N' ∧ Below w.heap.size w w3) := Lib.hid (by
          rw [Em.inner_stop (by rw [hgr.out, hcc]; simp)]
          exact ⟨_, rfl, _, _, _, hM3, hS2.out, hB3⟩)
        clear hM3 hB3 hS2 y0 y1 y2
        go_upto_region 8 with fail
        obtain ⟨v3, hr3, L3, O3, N3, hM3, hS3, hB3⟩ := hmid.out
        clear hmid
        have hloc3 := hM3.extra
        obtain ⟨y0, y1, y2, y3⟩ := four hloc3
        obtain ⟨r3, l3, o3, n3, p3⟩ := v3
        obtain ⟨gl3, cl3, hvl3, hcl3, hBl3, hgl3⟩ := own_some hM3.rowl (by rw [hS3.1.len, hlh]; omega)
        obtain ⟨Ao3, co3, hvo3, hco3⟩ := own_shape hM3.rowo
        simp only at hvl3 hvo3 hr3
        subst hvl3 hvo3 hr3
        have hLl3 : L3.length = l.length := by rw [hS3.1.len, hlh]
        obtain ⟨hB3', hbw3, hfz3, m0, m1, m2, m3, m4⟩ := hM3.blk
        have hrl3 := hM3.rowl
        simp only [hLl3] at m0 m1 m2 hrl3
        have lv3 := own_int hrl3 (k := k) (by omega)
        obtain ⟨z, hz⟩ : ∃ z, z = L3[k] := ⟨_, rfl⟩
        rw [← hz] at lv3
        have hzl : Em.lf L3 k = z := by rw [Em.lf_at (by omega), hz]
        have hnx := Em.sim_next hS3 (by rw [hlh]; exact hkl)
        rw [hzl] at hnx
        have hOf := hS3.1.open_few
        have hBw3 := hB3.size
        replace hM3 := Lib.hid hM3
        replace hB3 := Lib.hid hB3
        replace hnx := Lib.hid hnx
        clear hloc3 hrl3 hS3 hz hzl m0 m3 m4 y0 y1 y3
        cases hoo : r.o with
        | false =>
          rw [hoo] at y2
          have hnx2 : Hid (Em.SimB (Em.hold l) (k + 1) (Em.inner (Em.hold l) k st) L3 O3 N3) := Lib.hid (by have := hnx.out; rwa [hgr.out, hoo, if_neg (by simp)] at this)
          clear hnx hfz3 m1 m2 lv3
          go_wp2_with fail
          go_roundw
          case rel => exact ⟨k + 1, _, ⟨_, _, _, _, _⟩, L3, O3, N3, hkl, by go_num, Lib.hid rfl, Lib.hid hM3.out.less, hnx2, hfi2, hB3⟩
          case measure => simp [intOf]; omega
        | true =>
          rw [hoo] at y2
          rcases Nat.eq_zero_or_pos z with hz0 | hz0
          · subst hz0
            have hnx2 : Hid (Em.SimB (Em.hold l) (k + 1) (Em.inner (Em.hold l) k st) L3 O3 N3) := Lib.hid (by have := hnx.out; rwa [if_neg (by omega)] at this)
            clear hnx hfz3 m2
            go_wp2_with fail
            go_roundw
            case rel => exact ⟨k + 1, _, ⟨_, _, _, _, _⟩, L3, O3, N3, hkl, by go_num, Lib.hid rfl, Lib.hid hM3.out.less, hnx2, hfi2, hB3⟩
            case measure => simp [intOf]; omega
          · have t0 : decide ((0 : Int) < (z : Int)) = true := decide_eq_true (by omega)
            have t1 : decide (0 < z) = true := decide_eq_true hz0
            have hnx2 : Hid (Em.SimB (Em.hold l) (k + 1) (Em.inner (Em.hold l) k st) L3 (O3 ++ [k]) N3) := Lib.hid (by have := hnx.out; rwa [hgr.out, hoo, if_pos ⟨rfl, hz0⟩] at this)
            clear hnx hz0
            go_upto_region 10 with (at_builtin; refine wpList_app_two rfl (.tmp 42) (.tmp 44) rfl pintEI rfl hM3.out.rowo rfl (by simp) rfl (by simp; rfl) (by omega) (by omega) (by omega) ?_; intro vo7 w7 ho7 hg7 hb7 hat7; obtain ⟨A7, c7, rfl, hc7⟩ := own_shape ho7; obtain ⟨hfz7, m27⟩ := hM3.out.atO hg7.out; have hbw7 : b < w7.heap.size := Nat.lt_of_lt_of_le hbw3 hb7.size)
            generalize hw8 : World.setCell w7 _ _ = w8
            have hM8 := Lib.hid (show PM w.heap.size b none ⟨_, _, .slice A7 (O3.length + 1) c7, n3, p3⟩ (Em.hold l) L3 (O3 ++ [k]) N3 (Em.inner (Em.hold l) k st).2 w8 from by
              rw [← hw8]
              exact (hM3.out.newO hg7.out (by simpa [lcells] using ho7) hat7.out).less)
            have hB8 := Lib.hid (show Below w.heap.size w w8 from by rw [← hw8]; exact (hB3.out.trans hb7).setCell (p := ⟨b, 2, none⟩) hB3' _)
            clear hw8 hM3 hB3 ho7 hg7 hb7 hat7 hfz7 m27 hbw7 hfz3 m1 m2 lv3 t0 t1
            go_wp2_with fail
            go_roundw
            case rel => exact ⟨k + 1, _, ⟨_, _, _, _, _⟩, L3, O3 ++ [k], N3, hkl, by go_num, Lib.hid rfl, hM8, hnx2, hfi2, hB8⟩
            case measure => simp [intOf]; omega
      | true =>
        rw [hcc] at y3
        have q := pclose_any k st hM3 hS2.out hkh (by rw [hlh]; exact hl) hH.out (by rw [hgr.out, hcc])
        replace hM3 := Lib.hid hM3
        replace hB3 := Lib.hid hB3
        clear y0 y1 y2
        go_wp2_with fail
        refine q.mono ?_
        rintro e w4 ⟨rfl, ⟨v', hv', L', O', N', hM4, hS4⟩, hB4⟩
        have hmid : Hid (∃ v' : Vs, v'.r = .slice (some ⟨gr, 0, none⟩) l.length cr ∧ ∃ L' O' N', PM w.heap.size b (some (.blk wr.heap.size #[.int .u8 (r.ch.toNat : Int), .int .i64 (n : Int), .bool r.o, .bool r.c] 75)) v' (Em.hold l) L' O' N' (Em.inner (Em.hold l) k st).2 w4 ∧ Em.SimI (Em.hold l) k (Em.inner (Em.hold l) k st) L' O' N' ∧ Below w.heap.size w w4) :=
          Lib.hid ⟨v', hv', L', O', N', hM4, hS4, hB3.out.trans hB4⟩
        clear q hM3 hB3 hS2 hM4 hS4 hB4 hv' y3
        go_upto_region 8 with fail
        obtain ⟨v3, hr3, L3, O3, N3, hM3, hS3, hB3⟩ := hmid.out
        clear hmid
        have hloc3 := hM3.extra
        obtain ⟨y0, y1, y2, y3⟩ := four hloc3
        obtain ⟨r3, l3, o3, n3, p3⟩ := v3
        obtain ⟨gl3, cl3, hvl3, hcl3, hBl3, hgl3⟩ := own_some hM3.rowl (by rw [hS3.1.len, hlh]; omega)
        obtain ⟨Ao3, co3, hvo3, hco3⟩ := own_shape hM3.rowo
        simp only at hvl3 hvo3 hr3
        subst hvl3 hvo3 hr3
        have hLl3 : L3.length = l.length := by rw [hS3.1.len, hlh]
        obtain ⟨hB3', hbw3, hfz3, m0, m1, m2, m3, m4⟩ := hM3.blk
        have hrl3 := hM3.rowl
        simp only [hLl3] at m0 m1 m2 hrl3
        have lv3 := own_int hrl3 (k := k) (by omega)
        obtain ⟨z, hz⟩ : ∃ z, z = L3[k] := ⟨_, rfl⟩
        rw [← hz] at lv3
        have hzl : Em.lf L3 k = z := by rw [Em.lf_at (by omega), hz]
        have hnx := Em.sim_next hS3 (by rw [hlh]; exact hkl)
        rw [hzl] at hnx
        have hOf := hS3.1.open_few
        have hBw3 := hB3.size
        replace hM3 := Lib.hid hM3
        replace hB3 := Lib.hid hB3
        replace hnx := Lib.hid hnx
        clear hloc3 hrl3 hS3 hz hzl m0 m3 m4 y0 y1 y3
        cases hoo : r.o with
        | false =>
          rw [hoo] at y2
          have hnx2 : Hid (Em.SimB (Em.hold l) (k + 1) (Em.inner (Em.hold l) k st) L3 O3 N3) := Lib.hid (by have := hnx.out; rwa [hgr.out, hoo, if_neg (by simp)] at this)
          clear hnx hfz3 m1 m2 lv3
          go_wp2_with fail
          go_roundw
          case rel => exact ⟨k + 1, _, ⟨_, _, _, _, _⟩, L3, O3, N3, hkl, by go_num, Lib.hid rfl, Lib.hid hM3.out.less, hnx2, hfi2, hB3⟩
          case measure => simp [intOf]; omega
        | true =>
          rw [hoo] at y2
          rcases Nat.eq_zero_or_pos z with hz0 | hz0
          · subst hz0
            have hnx2 : Hid (Em.SimB (Em.hold l) (k + 1) (Em.inner (Em.hold l) k st) L3 O3 N3) := Lib.hid (by have := hnx.out; rwa [if_neg (by omega)] at this)
            clear hnx hfz3 m2
            go_wp2_with fail
            go_roundw
            case rel => exact ⟨k + 1, _, ⟨_, _, _, _, _⟩, L3, O3, N3, hkl, by go_num, Lib.hid rfl, Lib.hid hM3.out.less, hnx2, hfi2, hB3⟩
            case measure => simp [intOf]; omega
          · have t0 : decide ((0 : Int) < (z : Int)) = true := decide_eq_true (by omega)
            have t1 : decide (0 < z) = true := decide_eq_true hz0
            have hnx2 : Hid (Em.SimB (Em.hold l) (k + 1) (Em.inner (Em.hold l) k st) L3 (O3 ++ [k]) N3) := Lib.hid (by have := hnx.out; rwa [hgr.out, hoo, if_pos ⟨rfl, hz0⟩] at this)
            clear hnx hz0
            go_upto_region 10 with (at_builtin; refine wpList_app_two rfl (.tmp 42) (.tmp 44) rfl pintEI rfl hM3.out.rowo rfl (by simp) rfl (by simp; rfl) (by omega) (by omega) (by omega) ?_; intro vo7 w7 ho7 hg7 hb7 hat7; obtain ⟨A7, c7, rfl, hc7⟩ := own_shape ho7; obtain ⟨hfz7, m27⟩ := hM3.out.atO hg7.out; have hbw7 : b < w7.heap.size := Nat.lt_of_lt_of_le hbw3 hb7.size)
            generalize hw8 : World.setCell w7 _ _ = w8
            have hM8 := Lib.hid (show PM w.heap.size b none ⟨_, _, .slice A7 (O3.length + 1) c7, n3, p3⟩ (Em.hold l) L3 (O3 ++ [k]) N3 (Em.inner (Em.hold l) k st).2 w8 from by
              rw [← hw8]
              exact (hM3.out.newO hg7.out (by simpa [lcells] using ho7) hat7.out).less)
            have hB8 := Lib.hid (show Below w.heap.size w w8 from by rw [← hw8]; exact (hB3.out.trans hb7).setCell (p := ⟨b, 2, none⟩) hB3' _)
            clear hw8 hM3 hB3 ho7 hg7 hb7 hat7 hfz7 m27 hbw7 hfz3 m1 m2 lv3 t0 t1
            go_wp2_with fail
            go_roundw
            case rel => exact ⟨k + 1, _, ⟨_, _, _, _, _⟩, L3, O3 ++ [k], N3, hkl, by go_num, Lib.hid rfl, hM8, hnx2, hfi2, hB8⟩
            case measure => simp [intOf]; omega
    · have hke : k = l.length := by omega
      subst hke
      have ho : st.2 = Em.pairs l := by
        have h1 := hfi.out
        rw [Nat.sub_self] at h1
        rw [← hres.out, ← h1]; rfl
      have hMr := hM.out
      rw [ho] at hMr
      obtain ⟨_, hbw, hfz, m0, m1, m2, m3, m4⟩ := hMr.blk
      have hrp := Lib.hid hMr.rowp
      obtain ⟨AP, cp, hvp, hcp⟩ := own_shape hMr.rowp
      rw [hvp] at m4 hrp
      clear hMr m0 m1 m2 m3 hvr hM hS ho
      go_wp2_with fail
      go_ret
      exact ⟨⟨_, rfl, hrp.out⟩, hB.out⟩

theorem pmatch : PMatch := fun l A c w h hl => pmatch_any l A c w h hl
end Go.Proofs.YtkfhkfagmokjpaaDoor

namespace Go.Proofs.YtkfhkfagmokjpaaDoor
open Go.RowKit

/-- what package inline's Parse does -/
def PParse : Prop := ∀ (s : List UInt8) (w : World), s.length ≤ 4000000 → Tabs w → Calls Tryd.prog 5 #[.string (bs s)] w fun e w' =>
  (∃ v, e = .returned v ∧ ∃ css, w'.ownsRow w.heap.size 30 4 v (Il.parse s).length css.flatten ∧ ICs w' (fun b => w.heap.size ≤ b ∧ b < w'.heap.size) (Il.parse s) css) ∧ Below w.heap.size w w'
/-- what package inline's Text does -/
def PText : Prop := ∀ (ts : List Il.In) (_ : Il.masses ts ≤ 65000) (_ : ∀ t ∈ ts, Il.Few t) (_ : ts.length ≤ 1000000000) (_ : (Il.txts ts).length ≤ 1000000000) (A : Option Addr) (c : Nat) (css : List (List Value)) (w : World) (Q : Nat → Prop) (_ : ∀ b, Q b → b < w.heap.size)
  (_ : RowI w Q 4 A ts.length css.flatten) (_ : ICs w Q ts css),
  Calls Tryd.prog 8 #[.slice A ts.length c] w fun e w' => e = .returned (.string (bs (Il.txts ts))) ∧ Below w.heap.size w w'

end Go.Proofs.YtkfhkfagmokjpaaDoor

namespace Go.Proofs.YtkfhkfagmokjpaaDoor
open Go.RowKit

def kt1 : List UInt8 := [120, 32, 42, 97, 32, 42, 42, 98, 42, 42, 32, 99, 42, 32, 91, 100, 32, 42, 101, 42, 93, 40, 102, 41, 32, 96, 103, 42, 96, 32, 60, 104, 104, 58, 105, 62, 10, 106, 92, 42]
def kt2 : List UInt8 := [120, 32, 97, 32, 98, 32, 99, 32, 100, 32, 101, 32, 103, 42, 32, 104, 104, 58, 105, 32, 106, 42]
def kt3 : List UInt8 := [42, 42, 97, 42]
def kx1 : List Il.In := [Il.word [120, 32], .mk 2 [] [] [Il.word [97, 32], .mk 3 [] [] [Il.word [98]], Il.word [32, 99]], Il.word [32], .mk 4 [] [102] [Il.word [100, 32], .mk 2 [] [] [Il.word [101]]], Il.word [32], .mk 1 [103, 42] [] [], Il.word [32], .mk 4 [] [104, 104, 58, 105] [Il.word [104, 104, 58, 105]], .mk 5 [] [] [], Il.word [106, 42]]
def kx3 : List Il.In := [Il.word [42], .mk 2 [] [] [Il.word [97]]]
theorem kp1 : Il.parse kt1 = kx1 := by kernel_rfl
theorem kp2 : Il.txts kx1 = kt2 := by kernel_rfl
theorem kp3 : Il.parse kt3 = kx3 := by kernel_rfl
theorem few_kids {l : List Il.In} (h : ∀ t ∈ l, Il.Few t) (hl : l.length ≤ 1000000000) (k : Nat) (hk : k ≤ 1000) (t d : List UInt8) : Il.Few (.mk k t d l) := .mk hk hl h
theorem kx1_few : ∀ t ∈ kx1, Il.Few t := by
  have := (Il.parse_ok kt1 (by decide)).1
  rwa [kp1] at this
theorem kx3_few : ∀ t ∈ kx3, Il.Few t := by
  have := (Il.parse_ok kt3 (by decide)).1
  rwa [kp3] at this
theorem kp0 : Il.parse [] = [] := by kernel_rfl

set_option maxHeartbeats 8000000 in
set_option maxRecDepth 100000 in
theorem ilknown_any (hP : PParse) (hX : PText) (w : World) (hT : Tabs w) :
    Calls Tryd.prog 9 #[] w fun e w' => e = .returned (.bool true) ∧ Below w.heap.size w w' := by
  have q1 := fun w h => hP kt1 w (by decide) h
  rw [kp1] at q1
  replace q1 := Lib.hid q1
  replace hX := Lib.hid hX
  replace hT := Lib.hid hT
  go_enter Tryd.func9, Tryd.ntmps9
  go_wp2_with fail
  refine (q1.out _ hT.out).mono ?_
  rintro e w1 ⟨⟨v1, rfl, c1, ho1, hI1⟩, hb1⟩
  obtain ⟨A1, k1, rfl, hk1⟩ := own_shape ho1
  have hR1 := Lib.hid (own_rowI ho1)
  replace hI1 := Lib.hid hI1
  replace hb1 := Lib.hid hb1
  have hz1 := hb1.out.size
  clear ho1 q1
  go_wp2_with fail
  generalize hW : World.alloc _ _ = w2
  have hb3 : Below w1.heap.size w1 w2 := by rw [← hW]; exact (((((ext_alloc _ _).alloc (by simp) _).alloc (by simp; omega) _).alloc (by simp; omega) _).alloc (by simp; omega) _).alloc (by simp; omega) _
  obtain ⟨z, hz⟩ : ∃ z, z = w1.heap.size := ⟨_, rfl⟩
  rw [← hz] at hW ⊢
  have h0 : w2.heap[z]? = some (.cells (leafC 0 [98] []).toArray 30) := by rw [← hW, hz]; exact lit_old (lit_old (lit_old (lit_old (lit_old (lit_at rfl)))))
  have h1 : w2.heap[z + 1]? = some (.cells (leafC 0 [97, 32] [] ++ nodeC 3 [] [] z 1 ++ leafC 0 [32, 99] []).toArray 30) := by rw [← hW, hz]; exact lit_old (lit_old (lit_old (lit_old (lit_at (by simp)))))
  have h2 : w2.heap[z + 1 + 1]? = some (.cells (leafC 0 [101] []).toArray 30) := by rw [← hW, hz]; exact lit_old (lit_old (lit_old (lit_at (by simp))))
  have h3 : w2.heap[z + 1 + 1 + 1]? = some (.cells (leafC 0 [100, 32] [] ++ nodeC 2 [] [] (z + 1 + 1) 1).toArray 30) := by rw [← hW, hz]; exact lit_old (lit_old (lit_at (by simp)))
  have h4 : w2.heap[z + 1 + 1 + 1 + 1]? = some (.cells (leafC 0 [104, 104, 58, 105] []).toArray 30) := by rw [← hW, hz]; exact lit_old (lit_at (by simp))
  have h5 : w2.heap[z + 1 + 1 + 1 + 1 + 1]? = some (.cells (leafC 0 [120, 32] [] ++ nodeC 2 [] [] (z + 1) 3 ++ leafC 0 [32] [] ++ nodeC 4 [] [102] (z + 1 + 1 + 1) 2 ++ leafC 0 [32] [] ++ leafC 1 [103, 42] [] ++ leafC 0 [32] [] ++ nodeC 4 [] [104, 104, 58, 105] (z + 1 + 1 + 1 + 1) 1 ++ leafC 5 [] [] ++ leafC 0 [106, 42] []).toArray 30) := by rw [← hW, hz]; exact lit_at (by simp)
  have hsz : w2.heap.size = z + 6 := by rw [← hW, hz]; simp
  clear hW
  have hR2 := Lib.hid (hR1.out.frame (Q' := fun b => b < w2.heap.size) (fun b hb => hb3.block b hb.2) (fun b hb => by omega))
  have hJ2 := Lib.hid (ICs_frame (Q' := fun b => b < w2.heap.size) (fun b hb => hb3.block b hb.2) (fun b hb => by omega) hI1.out)
  have hB2 := Lib.hid (hb1.out.trans (hb3.mono hz1))
  have hL : ∃ css, RowI w2 (fun b => b < w2.heap.size) 4 (some ⟨z + 1 + 1 + 1 + 1 + 1, 0, none⟩) kx1.length css.flatten ∧ ICs w2 (fun b => b < w2.heap.size) kx1 css := by
    have r0 : RowI w2 (fun b => b < w2.heap.size) 4 (some ⟨z, 0, none⟩) 1 [leafC 0 [98] []].flatten := RowI_blk h0 (by omega) (by simp) rfl
    have r1 : RowI w2 (fun b => b < w2.heap.size) 4 (some ⟨z + 1, 0, none⟩) 3 [leafC 0 [97, 32] [], nodeC 3 [] [] z 1, leafC 0 [32, 99] []].flatten := RowI_blk h1 (by omega) (by simp) rfl
    have r2 : RowI w2 (fun b => b < w2.heap.size) 4 (some ⟨z + 1 + 1, 0, none⟩) 1 [leafC 0 [101] []].flatten := RowI_blk h2 (by omega) (by simp) rfl
    have r3 : RowI w2 (fun b => b < w2.heap.size) 4 (some ⟨z + 1 + 1 + 1, 0, none⟩) 2 [leafC 0 [100, 32] [], nodeC 2 [] [] (z + 1 + 1) 1].flatten := RowI_blk h3 (by omega) (by simp) rfl
    have r4 : RowI w2 (fun b => b < w2.heap.size) 4 (some ⟨z + 1 + 1 + 1 + 1, 0, none⟩) 1 [leafC 0 [104, 104, 58, 105] []].flatten := RowI_blk h4 (by omega) (by simp) rfl
    have r5 : RowI w2 (fun b => b < w2.heap.size) 4 (some ⟨z + 1 + 1 + 1 + 1 + 1, 0, none⟩) 10 [leafC 0 [120, 32] [], nodeC 2 [] [] (z + 1) 3, leafC 0 [32] [], nodeC 4 [] [102] (z + 1 + 1 + 1) 2, leafC 0 [32] [], leafC 1 [103, 42] [], leafC 0 [32] [], nodeC 4 [] [104, 104, 58, 105] (z + 1 + 1 + 1 + 1) 1, leafC 5 [] [], leafC 0 [106, 42] []].flatten := RowI_blk h5 (by omega) (by simp) rfl
    refine ⟨_, r5, ?_⟩
    exact ICs_cons (IC_leaf _ _ _) (ICs_cons (IC_node _ _ _ rfl r1 (ICs_cons (IC_leaf _ _ _) (ICs_cons (IC_node _ _ _ rfl r0 (ICs_cons (IC_leaf _ _ _) ICs_nil)) (ICs_cons (IC_leaf _ _ _) ICs_nil))))
      (ICs_cons (IC_leaf _ _ _) (ICs_cons (IC_node _ _ _ rfl r3 (ICs_cons (IC_leaf _ _ _) (ICs_cons (IC_node _ _ _ rfl r2 (ICs_cons (IC_leaf _ _ _) ICs_nil)) ICs_nil)))
      (ICs_cons (IC_leaf _ _ _) (ICs_cons (IC_leaf _ _ _) (ICs_cons (IC_leaf _ _ _) (ICs_cons (IC_node _ _ _ rfl r4 (ICs_cons (IC_leaf _ _ _) ICs_nil)) (ICs_cons (IC_leaf _ _ _) (ICs_cons (IC_leaf _ _ _) ICs_nil)))))))))
  obtain ⟨c2, hS2, hT2⟩ := hL
  have hS2 := Lib.hid hS2
  have hT2 := Lib.hid hT2
  obtain ⟨g, hg⟩ : ∃ g, g = z + 1 + 1 + 1 + 1 + 1 := ⟨_, rfl⟩
  rw [← hg] at hS2 ⊢
  clear hg h0 h1 h2 h3 h4 h5 hR1 hI1 hb1 hb3 hz1 hsz hz
  refine (risame_any _ kx1 (Nat.le_refl _) kx1_few (by decide) A1 (some ⟨g, 0, none⟩) k1 10 c1 c2 w2 (fun b => b < w2.heap.size) (fun _ h => h) hR2.out hJ2.out hS2.out hT2.out).mono ?_
  rintro e w3 ⟨rfl, hb3⟩
  have hz3 := hb3.size
  have hR3 := Lib.hid (hR2.out.frame (Q' := fun b => b < w3.heap.size) (fun b hb => hb3.block b hb) (fun b hb => Nat.lt_of_lt_of_le hb hz3))
  have hJ3 := Lib.hid (ICs_frame (Q' := fun b => b < w3.heap.size) (fun b hb => hb3.block b hb) (fun b hb => Nat.lt_of_lt_of_le hb hz3) hJ2.out)
  have hB3 := Lib.hid (ext_trans hB2.out hb3)
  clear hR2 hJ2 hS2 hT2 hB2 hb3
  go_wp2_with fail
  refine (hX.out kx1 (by decide) kx1_few (by decide) (by rw [kp2]; decide) A1 k1 c1 w3 (fun b => b < w3.heap.size) (fun _ h => h) hR3.out hJ3.out).mono ?_
  rw [kp2]
  rintro e w4 ⟨rfl, hb4⟩
  have hB4 := Lib.hid (ext_trans hB3.out hb4)
  have e2 : ((bs kt2).toList == [120, 32, 97, 32, 98, 32, 99, 32, 100, 32, 101, 32, 103, 42, 32, 104, 104, 58, 105, 32, 106, 42]) = true := by rw [bs_toList]; rfl
  clear hR3 hJ3 hB3 hb4
  have q0 := fun w h => hP [] w (by decide) h
  rw [kp0] at q0
  replace q0 := Lib.hid q0
  have q3 := fun w h => hP kt3 w (by decide) h
  rw [kp3] at q3
  replace q3 := Lib.hid q3
  go_wp2_with fail
  refine (q0.out _ (tabs_below hT.out hB4.out)).mono ?_
  rintro e w5 ⟨⟨v5, rfl, c5, ho5, _⟩, hb5⟩
  obtain ⟨A5, k5, rfl, _⟩ := own_shape ho5
  have hB5 := Lib.hid (ext_trans hB4.out hb5)
  clear ho5 hB4 hb5 e2 q0
  simp only [List.length_nil]
  go_wp2_with fail
  refine (q3.out _ (tabs_below hT.out hB5.out)).mono ?_
  rintro e w6 ⟨⟨v6, rfl, c6, ho6, hI6⟩, hb6⟩
  obtain ⟨A6, k6, rfl, hk6⟩ := own_shape ho6
  have hR6 := Lib.hid (own_rowI ho6)
  have hB6 := Lib.hid (ext_trans hB5.out hb6)
  replace hI6 := Lib.hid hI6
  clear ho6 q3 hb6 hB5
  go_wp2_with fail
  generalize hW : World.alloc _ _ = w7
  have hb7 : Below w6.heap.size w6 w7 := by rw [← hW]; exact (ext_alloc _ _).alloc (by simp) _
  obtain ⟨z, hz⟩ : ∃ z, z = w6.heap.size := ⟨_, rfl⟩
  rw [← hz] at hW ⊢
  have h0 : w7.heap[z]? = some (.cells (leafC 0 [97] []).toArray 30) := by rw [← hW, hz]; exact lit_old (lit_at rfl)
  have h1 : w7.heap[z + 1]? = some (.cells (leafC 0 [42] [] ++ nodeC 2 [] [] z 1).toArray 30) := by rw [← hW, hz]; exact lit_at (by simp)
  have hsz : w7.heap.size = z + 2 := by rw [← hW, hz]; simp
  clear hW
  have hz6 := hB6.out.size
  have hR7 := Lib.hid (hR6.out.frame (Q' := fun b => b < w7.heap.size) (fun b hb => hb7.block b hb.2) (fun b hb => by omega))
  have hJ7 := Lib.hid (ICs_frame (Q' := fun b => b < w7.heap.size) (fun b hb => hb7.block b hb.2) (fun b hb => by omega) hI6.out)
  have hB7 := Lib.hid (hB6.out.trans (hb7.mono hz6))
  have hL : ∃ css, RowI w7 (fun b => b < w7.heap.size) 4 (some ⟨z + 1, 0, none⟩) kx3.length css.flatten ∧ ICs w7 (fun b => b < w7.heap.size) kx3 css := by
    have r0 : RowI w7 (fun b => b < w7.heap.size) 4 (some ⟨z, 0, none⟩) 1 [leafC 0 [97] []].flatten := RowI_blk h0 (by omega) (by simp) rfl
    have r1 : RowI w7 (fun b => b < w7.heap.size) 4 (some ⟨z + 1, 0, none⟩) 2 [leafC 0 [42] [], nodeC 2 [] [] z 1].flatten := RowI_blk h1 (by omega) (by simp) rfl
    refine ⟨_, r1, ?_⟩
    exact ICs_cons (IC_leaf _ _ _) (ICs_cons (IC_node _ _ _ rfl r0 (ICs_cons (IC_leaf _ _ _) ICs_nil)) ICs_nil)
  obtain ⟨c7, hS7, hT7⟩ := hL
  have hS7 := Lib.hid hS7
  have hT7 := Lib.hid hT7
  obtain ⟨g7, hg7⟩ : ∃ g, g = z + 1 := ⟨_, rfl⟩
  rw [← hg7] at hS7 ⊢
  clear hg7 h0 h1 hR6 hI6 hB6 hb7 hsz hz hz6
  refine (risame_any _ kx3 (Nat.le_refl _) kx3_few (by decide) A6 (some ⟨g7, 0, none⟩) k6 2 c6 c7 w7 (fun b => b < w7.heap.size) (fun _ h => h) hR7.out hJ7.out hS7.out hT7.out).mono ?_
  rintro e w8 ⟨rfl, hb8⟩
  have hB8 := Lib.hid (ext_trans hB7.out hb8)
  clear hR7 hJ7 hS7 hT7 hB7 hb8
  go_wp2_with fail
  go_ret
  exact ⟨rfl, hB8.out⟩
end Go.Proofs.YtkfhkfagmokjpaaDoor

namespace Go.Proofs.YtkfhkfagmokjpaaDoor
open Go.RowKit

/-- what is made of one byte -/
def pc (b : UInt8) : List UInt8 :=
  if b.toNat % 16 = 0 then [42] else
  if b.toNat % 16 = 1 then [95] else
  if b.toNat % 16 = 2 then [97] else
  if b.toNat % 16 = 3 then [32] else
  if b.toNat % 16 = 4 then [91] else
  if b.toNat % 16 = 5 then [93, 40, 98, 41] else
  if b.toNat % 16 = 6 then [96] else
  if b.toNat % 16 = 7 then [92] else
  if b.toNat % 16 = 8 then [42, 42] else
  if b.toNat % 16 = 9 then [60, 97, 98, 58, 99, 62] else
  if b.toNat % 16 = 10 then [10] else
  if b.toNat % 16 = 11 then [33] else
  if b.toNat % 16 = 12 then [93] else
  if b.toNat % 16 = 13 then [195, 169] else
  if b.toNat % 16 = 14 then [95, 95] else
  [40, 99, 41]
theorem pc_ways (b : UInt8) : (bits .and .u8 (b.toNat : Int) 15 = 0 ∧ pc b = [42]) ∨
    (bits .and .u8 (b.toNat : Int) 15 = 1 ∧ pc b = [95]) ∨
    (bits .and .u8 (b.toNat : Int) 15 = 2 ∧ pc b = [97]) ∨
    (bits .and .u8 (b.toNat : Int) 15 = 3 ∧ pc b = [32]) ∨
    (bits .and .u8 (b.toNat : Int) 15 = 4 ∧ pc b = [91]) ∨
    (bits .and .u8 (b.toNat : Int) 15 = 5 ∧ pc b = [93, 40, 98, 41]) ∨
    (bits .and .u8 (b.toNat : Int) 15 = 6 ∧ pc b = [96]) ∨
    (bits .and .u8 (b.toNat : Int) 15 = 7 ∧ pc b = [92]) ∨
    (bits .and .u8 (b.toNat : Int) 15 = 8 ∧ pc b = [42, 42]) ∨
    (bits .and .u8 (b.toNat : Int) 15 = 9 ∧ pc b = [60, 97, 98, 58, 99, 62]) ∨
    (bits .and .u8 (b.toNat : Int) 15 = 10 ∧ pc b = [10]) ∨
    (bits .and .u8 (b.toNat : Int) 15 = 11 ∧ pc b = [33]) ∨
    (bits .and .u8 (b.toNat : Int) 15 = 12 ∧ pc b = [93]) ∨
    (bits .and .u8 (b.toNat : Int) 15 = 13 ∧ pc b = [195, 169]) ∨
    (bits .and .u8 (b.toNat : Int) 15 = 14 ∧ pc b = [95, 95]) ∨
    (bits .and .u8 (b.toNat : Int) 15 = 15 ∧ pc b = [40, 99, 41]) := by
  have hb : b.toNat < 256 := b.toNat_lt
  have h : bits .and .u8 (b.toNat : Int) ((15 : Nat) : Int) = ((b.toNat &&& 15 : Nat) : Int) := u8_and_nat _ _ hb (by omega)
  rw [show ((15 : Nat) : Int) = 15 from rfl] at h
  have h3 : b.toNat &&& 15 = b.toNat % 16 := Nat.and_two_pow_sub_one_eq_mod b.toNat 4
  rw [h, h3]
  have h8 : b.toNat % 16 < 16 := Nat.mod_lt _ (by omega)
  rcases (show b.toNat % 16 = 0 ∨ b.toNat % 16 = 1 ∨ b.toNat % 16 = 2 ∨ b.toNat % 16 = 3 ∨ b.toNat % 16 = 4 ∨ b.toNat % 16 = 5 ∨ b.toNat % 16 = 6 ∨ b.toNat % 16 = 7 ∨ b.toNat % 16 = 8 ∨ b.toNat % 16 = 9 ∨ b.toNat % 16 = 10 ∨ b.toNat % 16 = 11 ∨ b.toNat % 16 = 12 ∨ b.toNat % 16 = 13 ∨ b.toNat % 16 = 14 ∨ b.toNat % 16 = 15 from by omega) with e | e | e | e | e | e | e | e | e | e | e | e | e | e | e | e <;> simp [pc, e]
theorem pc_len (b : UInt8) : (pc b).length ≤ 6 := by
  rcases pc_ways b with ⟨-, e⟩ | ⟨-, e⟩ | ⟨-, e⟩ | ⟨-, e⟩ | ⟨-, e⟩ | ⟨-, e⟩ | ⟨-, e⟩ | ⟨-, e⟩ | ⟨-, e⟩ | ⟨-, e⟩ | ⟨-, e⟩ | ⟨-, e⟩ | ⟨-, e⟩ | ⟨-, e⟩ | ⟨-, e⟩ | ⟨-, e⟩ <;> rw [e] <;> decide
/-- what is made of the first of them -/
def md (n : Nat) (l : List UInt8) : List UInt8 := (l.take n).flatMap pc
theorem md_zero (l : List UInt8) : md 0 l = [] := by simp [md]
theorem md_succ {l : List UInt8} {n : Nat} (h : n < l.length) : md (n + 1) l = md n l ++ pc l[n] := by
  unfold md
  rw [List.take_succ_eq_append_getElem h, List.flatMap_append]; simp
theorem md_len (n : Nat) (l : List UInt8) (h : n ≤ l.length) : (md n l).length ≤ 6 * n := by
  induction n with
  | zero => simp [md]
  | succ n ih =>
    have h1 := ih (by omega)
    have h2 := pc_len l[n]
    rw [md_succ (by omega), List.length_append]; omega
theorem md_stop {l : List UInt8} {n : Nat} (h : n ≤ l.length) (h2 : n ≤ 28) (hs : l.length ≤ n ∨ 28 ≤ n) : md n l = md 28 l := by
  unfold md
  rcases hs with hs | hs
  · rw [List.take_of_length_le hs, List.take_of_length_le (by omega)]
  · rw [show n = 28 from by omega]
theorem md_all (l : List UInt8) : (md 28 l).length ≤ 168 := by
  have key : ∀ m : List UInt8, (m.flatMap pc).length ≤ 6 * m.length := by
    intro m
    induction m with
    | nil => simp
    | cons b r ih => have := pc_len b; simp only [List.flatMap_cons, List.length_append, List.length_cons]; omega
  have h1 := key (l.take 28)
  have h2 : (l.take 28).length ≤ 28 := by rw [List.length_take]; omega
  unfold md; omega

set_option maxHeartbeats 4000000 in
set_option maxRecDepth 100000 in
theorem made_fn (ks : List UInt8) (A : Option Addr) (c : Nat) (w : World) (h : Row w w.heap.size 1 A ks.length (bcells ks)) (hl : ks.length ≤ 9223372036854775807) :
    Calls Tryd.prog 7 #[.slice A ks.length c] w fun e w' => e = .returned (.string (bs (md 28 ks))) ∧ Below w.heap.size w w' := by
  have hR := Lib.hid h
  clear h
  go_enter Tryd.func7, Tryd.ntmps7
  go_wp2_with fail
  go_loopw [3, 4] (fun v j wr => ∃ i : Nat, i ≤ ks.length ∧ i ≤ 28 ∧ v = .string (bs (md i ks)) ∧ j = .int .i64 i ∧ Below w.heap.size w wr) (fun _ j _ => ks.length - (intOf j).toNat)
  case atStart => exact ⟨0, Nat.zero_le _, Nat.zero_le _, by rw [md_zero]; rfl, rfl, Below.refl _ _⟩
  case round =>
    obtain ⟨i, hk1, hk2, rfl, rfl, hb⟩ := hrel
    have hz1 := bs_size (md i ks)
    have hml := md_len i ks hk1
    by_cases hgo : i < ks.length ∧ i < 28
    · obtain ⟨hg1, hg2⟩ := hgo
      obtain ⟨b, o, rfl, hbb, hc⟩ := hR.out.at1 (show 0 < ks.length by omega)
      have hx : wr.cell? ⟨b, o + i, none⟩ = some (.int .u8 (ks[i].toNat : Int)) := (hb.cell hbb).trans ((hc i hg1).trans (by simp [bcells, bv]))
      clear hc
      have hbw : b < wr.heap.size := Nat.lt_of_lt_of_le hbb hb.size
      have hms := Lib.hid (md_succ hg1)
      obtain ⟨t, ht⟩ : ∃ t, md i ks = t := ⟨_, rfl⟩
      rw [ht] at hz1 hml
      have hms2 : Hid (md (i + 1) ks = t ++ pc ks[i]) := Lib.hid (by rw [hms.out, ht])
      rw [ht]
      clear ht hms
      rcases pc_ways ks[i] with ⟨hq, hp⟩ | ⟨hq, hp⟩ | ⟨hq, hp⟩ | ⟨hq, hp⟩ | ⟨hq, hp⟩ | ⟨hq, hp⟩ | ⟨hq, hp⟩ | ⟨hq, hp⟩ | ⟨hq, hp⟩ | ⟨hq, hp⟩ | ⟨hq, hp⟩ | ⟨hq, hp⟩ | ⟨hq, hp⟩ | ⟨hq, hp⟩ | ⟨hq, hp⟩ | ⟨hq, hp⟩
      all_goals
        replace hp := Lib.hid hp
        go_wp2_with fail
        go_roundw
        case rel => exact ⟨i + 1, by omega, by omega, by rw [hms2.out, hp.out, ← bs_append]; rfl, by go_num, hb.trans ((Below.refl _ _).alloc hb.size _)⟩
        case measure => simp [intOf]; omega
    · have hstop : ks.length ≤ i ∨ i < ks.length ∧ 28 ≤ i := by omega
      have hfin := Lib.hid (md_stop hk1 hk2 (by omega))
      clear hgo
      rcases hstop with hst | ⟨hst, hst2⟩
      all_goals
        go_wp2
        go_returns
        exact ⟨by rw [← hfin.out]; rfl, hb⟩
end Go.Proofs.YtkfhkfagmokjpaaDoor
