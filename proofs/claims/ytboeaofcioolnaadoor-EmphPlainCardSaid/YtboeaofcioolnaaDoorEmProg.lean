/- Package emph: Kind: the runes around a run, and what the run is. -/
import Derived.Test.YtboeaofcioolnaaDoorEmKd
import Derived.Test.YtboeaofcioolnaaDoorRnEnds
namespace Go.Proofs.YtboeaofcioolnaaDoor
open Go.RowKit

theorem runes_hd {l : List UInt8} {j : Nat} (h : j < l.length) : hdR (l.drop j) = Em.behind l j := by
  unfold hdR
  rw [Em.behind_in h, Ru.runes_step (by intro he; have := congrArg List.length he; simp at this; omega)]
  rfl
theorem runes_lt {l : List UInt8} {k : Nat} (h : 0 < k) (hk : k ≤ l.length) : ltR (l.take k) = Em.ahead l k := by
  unfold ltR Em.ahead
  rcases List.eq_nil_or_concat (Ru.runes (l.take k)) with he | ⟨r, x, he⟩
  · have := congrArg List.length (Ru.runes_eq_nil.1 he)
    rw [List.length_take, Nat.min_eq_left hk, List.length_nil] at this; omega
  · rw [he]; simp

set_option maxHeartbeats 2000000 in
set_option maxRecDepth 100000 in
theorem paround_any (l : List UInt8) (k j : Nat) (hs : l.length ≤ 1000000000000) (hk : k ≤ l.length) (hj : j ≤ l.length) (w : World) (hT : Tabs w) :
    Calls Tryd.prog 24 #[.string (bs l), .int .i64 (k : Int), .int .i64 (j : Int)] w fun e w' => e = .returned (.tuple #[.int .i32 (Em.ahead l k : Int), .int .i32 (Em.behind l j : Int)]) ∧ Below w.heap.size w w' := by
  have hu := fun w => run_upto (S := l) hk w
  have hf := fun w => run_from (S := l) hj w
  obtain ⟨A, hA⟩ : ∃ A, A = Em.ahead l k := ⟨_, rfl⟩
  obtain ⟨B, hB⟩ : ∃ B, B = Em.behind l j := ⟨_, rfl⟩
  have q1 : (A = 32 ∧ ∀ w : World, Calls Tryd.prog 36 #[.string (bs (l.take k))] w fun e w' => e = .returned (.tuple #[.int .i32 0, .bool false]) ∧ Below w.heap.size w w') ∨
      (∀ w : World, Tabs w → Calls Tryd.prog 36 #[.string (bs (l.take k))] w fun e w' => e = .returned (.tuple #[.int .i32 (A : Int), .bool true]) ∧ Below w.heap.size w w') := by
    rcases Nat.eq_zero_or_pos k with h0 | h0
    · subst h0
      exact .inl ⟨hA, fun w => last_none w⟩
    · refine .inr fun w hw => ?_
      rw [hA, ← runes_lt h0 hk]
      exact last_some (l.take k) (by intro he; have := congrArg List.length he; rw [List.length_take, Nat.min_eq_left hk, List.length_nil] at this; omega) w (by simp; omega) hw
  have q2 : (B = 32 ∧ ∀ w : World, Calls Tryd.prog 37 #[.string (bs (l.drop j))] w fun e w' => e = .returned (.tuple #[.int .i32 0, .bool false]) ∧ Below w.heap.size w w') ∨
      (∀ w : World, Calls Tryd.prog 37 #[.string (bs (l.drop j))] w fun e w' => e = .returned (.tuple #[.int .i32 (B : Int), .bool true]) ∧ Below w.heap.size w w') := by
    rcases Nat.lt_or_ge j l.length with h0 | h0
    · refine .inr fun w => ?_
      rw [hB, ← runes_hd h0]
      exact first_some (l.drop j) (by intro he; have := congrArg List.length he; simp at this; omega) w
    · refine .inl ⟨by rw [hB, Em.behind_out (by omega)], fun w => ?_⟩
      rw [List.drop_of_length_le h0]
      exact first_none w
  rw [← hA, ← hB]
  clear hA hB hk hj hs
  generalize l.take k = T1 at *
  generalize l.drop j = T2 at *
  replace hT := Lib.hid hT
  rcases q1 with ⟨rfl, q1⟩ | q1
  · rcases q2 with ⟨rfl, q2⟩ | q2
    all_goals
      go_enter Tryd.func24, Tryd.ntmps24
      go_wp2_with fail
      refine (q1 _).mono ?_
      rintro e w1 ⟨rfl, hb1⟩
      replace hb1 := Lib.hid hb1
      go_wp2_with fail
      refine (q2 _).mono ?_
      rintro e w2 ⟨rfl, hb2⟩
      replace hb2 := Lib.hid (ext_trans hb1.out hb2)
      go_wp2_with fail
      go_ret2
      exact ⟨rfl, hb2.out⟩
  · rcases q2 with ⟨rfl, q2⟩ | q2
    all_goals
      go_enter Tryd.func24, Tryd.ntmps24
      go_wp2_with fail
      refine (q1 _ hT.out).mono ?_
      rintro e w1 ⟨rfl, hb1⟩
      replace hb1 := Lib.hid hb1
      go_wp2_with fail
      refine (q2 _).mono ?_
      rintro e w2 ⟨rfl, hb2⟩
      replace hb2 := Lib.hid (ext_trans hb1.out hb2)
      go_wp2_with fail
      go_ret2
      exact ⟨rfl, hb2.out⟩

set_option maxHeartbeats 4000000 in
set_option maxRecDepth 100000 in
theorem pkind_off (l : List UInt8) (at_ : Int) (hs : l.length ≤ 1000000000000) (h0 : Em.starts l at_ = false) (w : World) :
    Calls Tryd.prog 14 #[.string (bs l), .int .i64 at_] w fun e w' => e = .returned (kindV none) ∧ Below w.heap.size w w' := by
  have q := fun w => pbegins_any l at_ hs w
  rw [h0] at q
  clear h0
  go_enter Tryd.func14, Tryd.ntmps14
  go_wp2_with fail
  refine (q _).mono ?_
  rintro e w1 ⟨rfl, hb1⟩
  clear q
  obtain ⟨z0, z1, z2, z3, z4⟩ := blk_open hb1
  replace hb1 := Lib.hid hb1
  go_wp2_with fail
  exact bodyPost_ret (v := kindV none) (by rw [results_cell_tmp2 rfl]; go_simp; rfl) rfl ⟨rfl, blk_done hb1.out _ _ _ _⟩

theorem set2 {w w5 : World} {g : Nat} {a b c d v : Value} {t : TypeId} (h : w.heap[g]? = some (.cells #[a, b, c, d] t (0, 0))) (hw : w.setCell ⟨g, 2, none⟩ v = w5) : w5.heap[g]? = some (.cells #[a, b, v, d] t (0, 0)) := by
  rw [← hw]; exact heap_setCell_same w g 2 _ _ v h
theorem set3 {w w5 : World} {g : Nat} {a b c d v : Value} {t : TypeId} (h : w.heap[g]? = some (.cells #[a, b, c, d] t (0, 0))) (hw : w.setCell ⟨g, 3, none⟩ v = w5) : w5.heap[g]? = some (.cells #[a, b, c, v] t (0, 0)) := by
  rw [← hw]; exact heap_setCell_same w g 3 _ _ v h
theorem set_below {B : Nat} {a w w5 : World} {p : Addr} {v : Value} (h : Below B a w) (hg : B ≤ p.block) (hw : w.setCell p v = w5) : Below B a w5 := by rw [← hw]; exact h.setCell hg v

set_option maxHeartbeats 4000000 in
set_option maxRecDepth 100000 in
theorem pkind_on (l : List UInt8) (k n : Nat) (c : UInt8) (hs : l.length ≤ 1000000000000) (hk : k < l.length) (hc : l[k] = c) (hn : n = Fn.run c (l.drop k)) (h0 : Em.starts l (k : Int) = true) (t : Bool) (ht : ((c.toNat : Int) == 95) = t) (J : Em.R)
    (hJ : J = Em.judge c n (Em.ahead l k) (Em.behind l (k + n))) (w : World) (hT : Tabs w) :
    Calls Tryd.prog 14 #[.string (bs l), .int .i64 (k : Int)] w fun e w' => e = .returned (kindV (some (J, k + n))) ∧ Below w.heap.size w w' := by
  have hin : k + n ≤ l.length := by rw [hn, ← hc]; exact Em.runs_in hk _
  have q1 := fun w => pbegins_any l (k : Int) hs w
  have q2 := fun w => prun_any l k c w hs (by omega)
  have q3 := fun w hw => paround_any l k (k + n) hs (by omega) hin w hw
  have hix := fun w => run_byte hk w
  rw [← hn] at q2
  rw [hc] at hix
  rw [h0] at q1
  have hwr : IntKind.i64.wrap ((k : Int) + (n : Int)) = ((k + n : Nat) : Int) := by rw [IntKind.wrap_i64]; omega
  obtain ⟨m, hm⟩ : ∃ m, m = k + n := ⟨_, rfl⟩
  rw [← hm] at hwr q3 hJ ⊢
  obtain ⟨b, hb⟩ : ∃ b, b = Em.ahead l k := ⟨_, rfl⟩
  obtain ⟨a, ha⟩ : ∃ a, a = Em.behind l m := ⟨_, rfl⟩
  rw [← hb, ← ha] at q3 hJ
  have q4 := fun w => pleans_any a b w
  have q5 := fun w => pleans_any b a w
  have q6 := fun w => punct_any (b : Int) w
  have q7 := fun w => punct_any (a : Int) w
  have hJ0 : t = false → J = ⟨c, n, Em.leanB b a, Em.leanB a b⟩ := by
    intro h
    rw [hJ]; unfold Em.judge
    rw [if_neg]
    rintro rfl; rw [h] at ht; exact absurd ht (by decide)
  have hJ1 : t = true → J = ⟨c, n, Em.leanB b a && (!Em.leanB a b || punctB b), Em.leanB a b && (!Em.leanB b a || punctB a)⟩ := by
    intro h
    rw [hJ]; unfold Em.judge
    rw [if_pos]
    rw [h] at ht
    have h1 : (c.toNat : Int) = 95 := by simpa using ht
    have h2 : (95 : UInt8).toNat = 95 := rfl
    exact UInt8.toNat_inj.1 (by omega)
  clear hJ hn hc h0
  obtain ⟨x, hx⟩ : ∃ x, x = Em.leanB b a := ⟨_, rfl⟩
  obtain ⟨y, hy⟩ : ∃ y, y = Em.leanB a b := ⟨_, rfl⟩
  obtain ⟨PB, hPB⟩ : ∃ y, y = punctB b := ⟨_, rfl⟩
  obtain ⟨PA, hPA⟩ : ∃ y, y = punctB a := ⟨_, rfl⟩
  rw [← hx] at q4 hJ0 hJ1
  rw [← hy] at q5 hJ0 hJ1
  rw [← hPB] at q6 hJ1
  rw [← hPA] at q7 hJ1
  clear hx hy hPB hPA ha hb
  have hkn : k ≤ 1000000000000 := by omega
  have hnn : n ≤ 1000000000000 := by omega
  clear hin hm hk hs
  replace hT := Lib.hid hT
  replace hJ0 := Lib.hid hJ0
  replace hJ1 := Lib.hid hJ1
  go_enter Tryd.func14, Tryd.ntmps14
  go_wp2_with fail
  refine (q1 _).mono ?_
  rintro e w1 ⟨rfl, hb1⟩
  have hA := Lib.hid (ext_trans (ext_alloc w _) hb1)
  replace hb1 := Lib.hid hb1
  go_wp2_with fail
  refine (q2 _).mono ?_
  rintro e w2 ⟨rfl, rfl⟩
  go_wp2_with fail
  refine (q3 _ (tabs_below hT.out hA.out)).mono ?_
  rintro e w2 ⟨rfl, hb2⟩
  replace hb1 := Lib.hid (ext_trans hb1.out hb2)
  replace hA := Lib.hid (ext_trans hA.out hb2)
  go_wp2_with fail
  refine (q4 _).mono ?_
  rintro e w3 ⟨rfl, rfl⟩
  go_wp2_with fail
  refine (q5 _).mono ?_
  rintro e w3 ⟨rfl, rfl⟩
  clear q1 q2 q3 q4 q5
  go_upto_region 9 with fail
  generalize hw4 : World.alloc w2 _ = w4
  have h4 : w4.heap[w2.heap.size]? = some (.cells #[.int .u8 (c.toNat : Int), .int .i64 (n : Int), .bool x, .bool y] 29 (0, 0)) := by rw [← hw4]; exact heap_alloc_new _ _
  have hA4 := ext_trans hA.out (show Below w2.heap.size w2 w4 from by rw [← hw4]; exact ext_alloc _ _)
  have hb4 := ext_trans hb1.out (show Below w2.heap.size w2 w4 from by rw [← hw4]; exact ext_alloc _ _)
  have hg2 := hb1.out.size
  clear hw4 hb2 hb1
  cases t with
  | false =>
    have hJ := hJ0.out rfl
    clear hJ0 hJ1
    subst hJ
    obtain ⟨y0, y1, y2, y3⟩ := four h4
    obtain ⟨z0, z1, z2, z3, z4⟩ := blk_open hb4
    replace hb4 := Lib.hid hb4
    replace h4 := Lib.hid h4
    go_wp2_with fail
    exact bodyPost_ret (v := kindV (some (⟨c, n, x, y⟩, m))) (by rw [results_cell_tmp2 rfl]; unfold kindV aval; go_simp) rfl ⟨rfl, blk_done hb4.out _ _ _ _⟩
  | true =>
    have hJ := hJ1.out rfl
    clear hJ0 hJ1
    subst hJ
    have hfz : ∀ j, w4.frozen? ⟨w2.heap.size, j, none⟩ = false := blk_free h4
    obtain ⟨y0, y1, y2, y3⟩ := four h4
    replace hb4 := Lib.hid hb4
    replace h4 := Lib.hid h4
    cases x <;> cases y
    all_goals
      go_upto_region 11 with (go_at_call 26; refine (q6 _).mono ?_; rintro e w5 ⟨rfl, rfl⟩)
      generalize hw5 : World.setCell w4 _ _ = w5
      have k5 := set2 h4.out hw5
      have kb5 := set_below hb4.out hg2 hw5
      clear hw5 y0 y1 y2 y3 hfz
      have hfz : ∀ j, w5.frozen? ⟨w2.heap.size, j, none⟩ = false := blk_free k5
      obtain ⟨y0, y1, y2, y3⟩ := four k5
      replace k5 := Lib.hid k5
      replace kb5 := Lib.hid kb5
      go_upto_region 12 with (go_at_call 26; refine (q7 _).mono ?_; rintro e w5 ⟨rfl, rfl⟩)
      generalize hw6 : World.setCell w5 _ _ = w6
      have k6 := set3 k5.out hw6
      have kb6 := set_below kb5.out hg2 hw6
      clear hw6 y0 y1 y2 y3 hfz
      obtain ⟨y0, y1, y2, y3⟩ := four k6
      obtain ⟨z0, z1, z2, z3, z4⟩ := blk_open kb6
      replace kb6 := Lib.hid kb6
      replace k6 := Lib.hid k6
      go_wp2_with fail
      exact bodyPost_ret (by rw [results_cell_tmp2 rfl]; unfold kindV aval; go_simp) rfl ⟨rfl, blk_done kb6.out _ _ _ _⟩

theorem kindV_form (x : Option (Em.R × Nat)) : ∃ (ch : UInt8) (n : Int) (o c : Bool) (e : Nat) (ok : Bool), kindV x = .tuple #[.agg #[.int .u8 (ch.toNat : Int), .int .i64 n, .bool o, .bool c], .int .i64 (e : Int), .bool ok] := by
  cases x with
  | none => exact ⟨0, 0, false, false, 0, false, rfl⟩
  | some x => exact ⟨x.1.ch, x.1.n, x.1.o, x.1.c, x.2, true, rfl⟩

/-- a run is judged as the document says: for every text, every place -/
theorem pkind_any (l : List UInt8) (at_ : Int) (hs : l.length ≤ 1000000000000) (w : World) (hT : Tabs w) :
    Calls Tryd.prog 14 #[.string (bs l), .int .i64 at_] w fun e w' => e = .returned (kindV (Em.kind l at_)) ∧ Below w.heap.size w w' := by
  cases h0 : Em.starts l at_ with
  | false =>
    rw [Em.kind_off h0]
    exact pkind_off l at_ hs h0 w
  | true =>
    obtain ⟨h1, h2, _⟩ := of_decide_eq_true h0
    obtain ⟨k, rfl⟩ : ∃ k : Nat, at_ = (k : Int) := ⟨at_.toNat, by omega⟩
    have hk : k < l.length := by omega
    rw [Em.kind_on hk h0]
    exact pkind_on l k _ _ hs hk rfl rfl h0 _ rfl _ rfl w hT
end Go.Proofs.YtboeaofcioolnaaDoor
