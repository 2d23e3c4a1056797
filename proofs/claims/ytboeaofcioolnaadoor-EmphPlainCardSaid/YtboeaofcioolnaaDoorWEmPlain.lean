/- Law 10, a run between blanks, ahead of a letter, behind one, alone. What the program's Match does is a premise. -/
import Derived.Test.YtboeaofcioolnaaDoorEmKnown
import Derived.Test.YtboeaofcioolnaaDoorBit64
namespace Go.Proofs.YtboeaofcioolnaaDoor
open Go.RowKit

theorem pk_star : ∀ m < 8, Em.kind ([32] ++ List.replicate (m + 1) 42 ++ [32]) 1 = some (⟨42, ((m + 1 : Nat) : Int), false, false⟩, m + 2) ∧ Em.kind ([32] ++ List.replicate (m + 1) 42 ++ [120]) 1 = some (⟨42, ((m + 1 : Nat) : Int), true, false⟩, m + 2) ∧
    Em.kind ([120] ++ List.replicate (m + 1) 42 ++ [32]) 1 = some (⟨42, ((m + 1 : Nat) : Int), false, true⟩, m + 2) ∧ Em.kind (List.replicate (m + 1) 42) 0 = some (⟨42, ((m + 1 : Nat) : Int), false, false⟩, m + 1) := by decide +kernel
set_option maxHeartbeats 4000000 in
set_option maxRecDepth 100000 in
theorem plain_star (hP : PMatch) (n : Int) (w : World) (hT : Tabs w) :
    Calls Tryd.prog 6 #[.int .i64 n, .bool false] w fun e w' => e = .returned (.bool true) ∧ Below w.heap.size w w' := by
  have h7 := i64_and7 n
  obtain ⟨m, hm⟩ : ∃ m : Nat, n % 8 = (m : Int) := ⟨(n % 8).toNat, by omega⟩
  have hm8 : m < 8 := by omega
  rw [hm] at h7
  replace hm := Lib.hid hm
  obtain ⟨k1, k2, k3, k4⟩ := pk_star m hm8
  have q1 := fun w hw => pkind_any ([32] ++ List.replicate (m + 1) 42 ++ [32]) 1 (by simp; omega) w hw
  have q2 := fun w hw => pkind_any ([32] ++ List.replicate (m + 1) 42 ++ [120]) 1 (by simp; omega) w hw
  have q3 := fun w hw => pkind_any ([120] ++ List.replicate (m + 1) 42 ++ [32]) 1 (by simp; omega) w hw
  have q4 := fun w hw => pkind_any (List.replicate (m + 1) 42) 0 (by simp; omega) w hw
  rw [k1] at q1
  rw [k2] at q2
  rw [k3] at q3
  rw [k4] at q4
  clear k1 k2 k3 k4
  have hcut : ∀ w : World, (Instr.slice 9 (.string ⟨#[42, 42, 42, 42, 42, 42, 42, 42]⟩) none (some (.int .i64 (1 + (m : Int)))) none).run Tryd.prog w = .ok (.string (bs (List.replicate (m + 1) 42))) w := by
    intro w
    have := run_upto (S := List.replicate 8 42) (i := m + 1) (by simp; omega) w
    rw [List.take_replicate, show min (m + 1) 8 = m + 1 from by omega, show ((m + 1 : Nat) : Int) = 1 + (m : Int) from by omega] at this
    exact this
  obtain ⟨S, hS⟩ : ∃ S : List UInt8, S = List.replicate (m + 1) (42 : UInt8) := ⟨_, rfl⟩
  have hSl : S.length = m + 1 := by rw [hS, List.length_replicate]
  rw [← hS] at q1 q2 q3 q4 hcut
  clear hS
  have hz := bs_size S
  have c1 : (⟨#[32]⟩ : ByteArray) ++ bs S = bs ([32] ++ S) := bs_append [32] S
  have c2 : bs ([32] ++ S) ++ (⟨#[32]⟩ : ByteArray) = bs ([32] ++ S ++ [32]) := bs_append _ [32]
  have c3 : bs ([32] ++ S) ++ (⟨#[120]⟩ : ByteArray) = bs ([32] ++ S ++ [120]) := bs_append _ [120]
  have c4 : (⟨#[120]⟩ : ByteArray) ++ bs S = bs ([120] ++ S) := bs_append [120] S
  have c5 : bs ([120] ++ S) ++ (⟨#[32]⟩ : ByteArray) = bs ([120] ++ S ++ [32]) := bs_append _ [32]
  obtain ⟨X1, hX1⟩ : ∃ X : List UInt8, X = [32] ++ S := ⟨_, rfl⟩
  obtain ⟨X2, hX2⟩ : ∃ X : List UInt8, X = [120] ++ S := ⟨_, rfl⟩
  have e1 := bs_size X1
  have e2 := bs_size X2
  have l1 : X1.length = m + 2 := by rw [hX1]; simp [hSl]
  have l2 : X2.length = m + 2 := by rw [hX2]; simp [hSl]
  rw [← hX1] at c1 c2 c3 q1 q2
  rw [← hX2] at c4 c5 q3
  clear hX1 hX2
  obtain ⟨Y1, hY1⟩ : ∃ X, X = X1 ++ [32] := ⟨_, rfl⟩
  obtain ⟨Y2, hY2⟩ : ∃ X, X = X1 ++ [120] := ⟨_, rfl⟩
  obtain ⟨Y3, hY3⟩ : ∃ X, X = X2 ++ [32] := ⟨_, rfl⟩
  rw [← hY1] at c2 q1
  rw [← hY2] at c3 q2
  rw [← hY3] at c5 q3
  clear hY1 hY2 hY3
  unfold kindV aval at q1 q2 q3 q4
  simp only at q1 q2 q3 q4
  have hwr : IntKind.i64.wrap (1 + (m : Int)) = 1 + (m : Int) := by rw [IntKind.wrap_i64]; omega
  replace hT := Lib.hid hT
  go_enter Tryd.func6, Tryd.ntmps6
  go_wp2_with fail
  refine (q1 _ hT.out).mono ?_
  rintro e w1 ⟨rfl, hb1⟩
  go_upto_region 6 with fail
  generalize hw2 : World.alloc w1 _ = w2
  have a2 := Lib.hid (show w2.heap[w1.heap.size]? = some (.cells #[.int .u8 42, .int .i64 ((m + 1 : Nat) : Int), .bool false, .bool false] 29 (0, 0)) from by rw [← hw2]; exact heap_alloc_new _ _)
  have b2 := Lib.hid (show Below w.heap.size w w2 from by rw [← hw2]; exact hb1.alloc hb1.size _)
  clear hw2 q1
  go_wp2_with fail
  refine (q2 _ (tabs_below hT.out b2.out)).mono ?_
  rintro e w3 ⟨rfl, hb3⟩
  have a3 := Lib.hid (keep a2.out hb3).1
  replace hb3 := Lib.hid (ext_trans b2.out hb3)
  go_upto_region 7 with fail
  generalize hw4 : World.alloc w3 _ = w4
  have e34 : Below w3.heap.size w3 w4 := by rw [← hw4]; exact ext_alloc _ _
  have a4 := Lib.hid (keep a3.out e34).1
  have f4 := Lib.hid (show w4.heap[w3.heap.size]? = some (.cells #[.int .u8 42, .int .i64 ((m + 1 : Nat) : Int), .bool true, .bool false] 29 (0, 0)) from by rw [← hw4]; exact heap_alloc_new _ _)
  have b4 := Lib.hid (ext_trans hb3.out e34)
  clear hw4 q2 e34 a2 a3
  go_wp2_with fail
  refine (q3 _ (tabs_below hT.out b4.out)).mono ?_
  rintro e w5 ⟨rfl, hb5⟩
  have a5 := Lib.hid (keep a4.out hb5).1
  have f5 := Lib.hid (keep f4.out hb5).1
  replace hb5 := Lib.hid (ext_trans b4.out hb5)
  go_upto_region 8 with fail
  generalize hw6 : World.alloc w5 _ = w6
  have e56 : Below w5.heap.size w5 w6 := by rw [← hw6]; exact ext_alloc _ _
  have a6 := Lib.hid (keep a5.out e56).1
  have f6 := Lib.hid (keep f5.out e56).1
  have g6 := Lib.hid (show w6.heap[w5.heap.size]? = some (.cells #[.int .u8 42, .int .i64 ((m + 1 : Nat) : Int), .bool false, .bool true] 29 (0, 0)) from by rw [← hw6]; exact heap_alloc_new _ _)
  have b6 := Lib.hid (ext_trans hb5.out e56)
  clear hw6 q3 e56 a4 a5 f4 f5
  go_wp2_with fail
  refine (q4 _ (tabs_below hT.out b6.out)).mono ?_
  rintro e w7 ⟨rfl, hb7⟩
  have a7 := (keep a6.out hb7).1
  have f7 := (keep f6.out hb7).1
  have g7 := (keep g6.out hb7).1
  have s1 := (keep a6.out hb7).2
  have s2 := (keep f6.out hb7).2
  have s3 := (keep g6.out hb7).2
  replace hb7 := Lib.hid (ext_trans b6.out hb7)
  obtain ⟨z0, z1, z2, z3⟩ := four a7
  obtain ⟨y0, y1, y2, y3⟩ := four f7
  obtain ⟨x0, x1, x2, x3⟩ := four g7
  clear a7 f7 g7 a6 f6 g6 q4
  go_wp2_with fail
  refine (known_any hP _ (tabs_below (tabs_below hT.out hb7.out) (ext_alloc _ _))).mono ?_
  rintro e w8 ⟨rfl, hb8⟩
  replace hb8 := Lib.hid (ext_trans hb7.out (ext_trans (ext_alloc _ _) hb8))
  go_wp2_with fail
  go_ret
  exact ⟨rfl, hb8.out⟩

theorem pk_under : ∀ m < 8, Em.kind ([32] ++ List.replicate (m + 1) 95 ++ [32]) 1 = some (⟨95, ((m + 1 : Nat) : Int), false, false⟩, m + 2) ∧ Em.kind ([32] ++ List.replicate (m + 1) 95 ++ [120]) 1 = some (⟨95, ((m + 1 : Nat) : Int), true, false⟩, m + 2) ∧
    Em.kind ([120] ++ List.replicate (m + 1) 95 ++ [32]) 1 = some (⟨95, ((m + 1 : Nat) : Int), false, true⟩, m + 2) ∧ Em.kind (List.replicate (m + 1) 95) 0 = some (⟨95, ((m + 1 : Nat) : Int), false, false⟩, m + 1) := by decide +kernel
set_option maxHeartbeats 4000000 in
set_option maxRecDepth 100000 in
theorem plain_under (hP : PMatch) (n : Int) (w : World) (hT : Tabs w) :
    Calls Tryd.prog 6 #[.int .i64 n, .bool true] w fun e w' => e = .returned (.bool true) ∧ Below w.heap.size w w' := by
  have h7 := i64_and7 n
  obtain ⟨m, hm⟩ : ∃ m : Nat, n % 8 = (m : Int) := ⟨(n % 8).toNat, by omega⟩
  have hm8 : m < 8 := by omega
  rw [hm] at h7
  replace hm := Lib.hid hm
  obtain ⟨k1, k2, k3, k4⟩ := pk_under m hm8
  have q1 := fun w hw => pkind_any ([32] ++ List.replicate (m + 1) 95 ++ [32]) 1 (by simp; omega) w hw
  have q2 := fun w hw => pkind_any ([32] ++ List.replicate (m + 1) 95 ++ [120]) 1 (by simp; omega) w hw
  have q3 := fun w hw => pkind_any ([120] ++ List.replicate (m + 1) 95 ++ [32]) 1 (by simp; omega) w hw
  have q4 := fun w hw => pkind_any (List.replicate (m + 1) 95) 0 (by simp; omega) w hw
  rw [k1] at q1
  rw [k2] at q2
  rw [k3] at q3
  rw [k4] at q4
  clear k1 k2 k3 k4
  have hcut : ∀ w : World, (Instr.slice 9 (.string ⟨#[95, 95, 95, 95, 95, 95, 95, 95]⟩) none (some (.int .i64 (1 + (m : Int)))) none).run Tryd.prog w = .ok (.string (bs (List.replicate (m + 1) 95))) w := by
    intro w
    have := run_upto (S := List.replicate 8 95) (i := m + 1) (by simp; omega) w
    rw [List.take_replicate, show min (m + 1) 8 = m + 1 from by omega, show ((m + 1 : Nat) : Int) = 1 + (m : Int) from by omega] at this
    exact this
  obtain ⟨S, hS⟩ : ∃ S : List UInt8, S = List.replicate (m + 1) (95 : UInt8) := ⟨_, rfl⟩
  have hSl : S.length = m + 1 := by rw [hS, List.length_replicate]
  rw [← hS] at q1 q2 q3 q4 hcut
  clear hS
  have hz := bs_size S
  have c1 : (⟨#[32]⟩ : ByteArray) ++ bs S = bs ([32] ++ S) := bs_append [32] S
  have c2 : bs ([32] ++ S) ++ (⟨#[32]⟩ : ByteArray) = bs ([32] ++ S ++ [32]) := bs_append _ [32]
  have c3 : bs ([32] ++ S) ++ (⟨#[120]⟩ : ByteArray) = bs ([32] ++ S ++ [120]) := bs_append _ [120]
  have c4 : (⟨#[120]⟩ : ByteArray) ++ bs S = bs ([120] ++ S) := bs_append [120] S
  have c5 : bs ([120] ++ S) ++ (⟨#[32]⟩ : ByteArray) = bs ([120] ++ S ++ [32]) := bs_append _ [32]
  obtain ⟨X1, hX1⟩ : ∃ X : List UInt8, X = [32] ++ S := ⟨_, rfl⟩
  obtain ⟨X2, hX2⟩ : ∃ X : List UInt8, X = [120] ++ S := ⟨_, rfl⟩
  have e1 := bs_size X1
  have e2 := bs_size X2
  have l1 : X1.length = m + 2 := by rw [hX1]; simp [hSl]
  have l2 : X2.length = m + 2 := by rw [hX2]; simp [hSl]
  rw [← hX1] at c1 c2 c3 q1 q2
  rw [← hX2] at c4 c5 q3
  clear hX1 hX2
  obtain ⟨Y1, hY1⟩ : ∃ X, X = X1 ++ [32] := ⟨_, rfl⟩
  obtain ⟨Y2, hY2⟩ : ∃ X, X = X1 ++ [120] := ⟨_, rfl⟩
  obtain ⟨Y3, hY3⟩ : ∃ X, X = X2 ++ [32] := ⟨_, rfl⟩
  rw [← hY1] at c2 q1
  rw [← hY2] at c3 q2
  rw [← hY3] at c5 q3
  clear hY1 hY2 hY3
  unfold kindV aval at q1 q2 q3 q4
  simp only at q1 q2 q3 q4
  have hwr : IntKind.i64.wrap (1 + (m : Int)) = 1 + (m : Int) := by rw [IntKind.wrap_i64]; omega
  replace hT := Lib.hid hT
  go_enter Tryd.func6, Tryd.ntmps6
  go_wp2_with fail
  refine (q1 _ hT.out).mono ?_
  rintro e w1 ⟨rfl, hb1⟩
  go_upto_region 6 with fail
  generalize hw2 : World.alloc w1 _ = w2
  have a2 := Lib.hid (show w2.heap[w1.heap.size]? = some (.cells #[.int .u8 95, .int .i64 ((m + 1 : Nat) : Int), .bool false, .bool false] 29 (0, 0)) from by rw [← hw2]; exact heap_alloc_new _ _)
  have b2 := Lib.hid (show Below w.heap.size w w2 from by rw [← hw2]; exact hb1.alloc hb1.size _)
  clear hw2 q1
  go_wp2_with fail
  refine (q2 _ (tabs_below hT.out b2.out)).mono ?_
  rintro e w3 ⟨rfl, hb3⟩
  have a3 := Lib.hid (keep a2.out hb3).1
  replace hb3 := Lib.hid (ext_trans b2.out hb3)
  go_upto_region 7 with fail
  generalize hw4 : World.alloc w3 _ = w4
  have e34 : Below w3.heap.size w3 w4 := by rw [← hw4]; exact ext_alloc _ _
  have a4 := Lib.hid (keep a3.out e34).1
  have f4 := Lib.hid (show w4.heap[w3.heap.size]? = some (.cells #[.int .u8 95, .int .i64 ((m + 1 : Nat) : Int), .bool true, .bool false] 29 (0, 0)) from by rw [← hw4]; exact heap_alloc_new _ _)
  have b4 := Lib.hid (ext_trans hb3.out e34)
  clear hw4 q2 e34 a2 a3
  go_wp2_with fail
  refine (q3 _ (tabs_below hT.out b4.out)).mono ?_
  rintro e w5 ⟨rfl, hb5⟩
  have a5 := Lib.hid (keep a4.out hb5).1
  have f5 := Lib.hid (keep f4.out hb5).1
  replace hb5 := Lib.hid (ext_trans b4.out hb5)
  go_upto_region 8 with fail
  generalize hw6 : World.alloc w5 _ = w6
  have e56 : Below w5.heap.size w5 w6 := by rw [← hw6]; exact ext_alloc _ _
  have a6 := Lib.hid (keep a5.out e56).1
  have f6 := Lib.hid (keep f5.out e56).1
  have g6 := Lib.hid (show w6.heap[w5.heap.size]? = some (.cells #[.int .u8 95, .int .i64 ((m + 1 : Nat) : Int), .bool false, .bool true] 29 (0, 0)) from by rw [← hw6]; exact heap_alloc_new _ _)
  have b6 := Lib.hid (ext_trans hb5.out e56)
  clear hw6 q3 e56 a4 a5 f4 f5
  go_wp2_with fail
  refine (q4 _ (tabs_below hT.out b6.out)).mono ?_
  rintro e w7 ⟨rfl, hb7⟩
  have a7 := (keep a6.out hb7).1
  have f7 := (keep f6.out hb7).1
  have g7 := (keep g6.out hb7).1
  have s1 := (keep a6.out hb7).2
  have s2 := (keep f6.out hb7).2
  have s3 := (keep g6.out hb7).2
  replace hb7 := Lib.hid (ext_trans b6.out hb7)
  obtain ⟨z0, z1, z2, z3⟩ := four a7
  obtain ⟨y0, y1, y2, y3⟩ := four f7
  obtain ⟨x0, x1, x2, x3⟩ := four g7
  clear a7 f7 g7 a6 f6 g6 q4
  go_wp2_with fail
  refine (known_any hP _ (tabs_below (tabs_below hT.out hb7.out) (ext_alloc _ _))).mono ?_
  rintro e w8 ⟨rfl, hb8⟩
  replace hb8 := Lib.hid (ext_trans hb7.out (ext_trans (ext_alloc _ _) hb8))
  go_wp2_with fail
  go_ret
  exact ⟨rfl, hb8.out⟩

theorem plain_said (hP : PMatch) (n : Int) (b : Bool) (w : World) (hT : Tabs w) :
    Calls Tryd.prog 6 #[.int .i64 n, .bool b] w fun e w' => e = .returned (.bool true) ∧ Below w.heap.size w w' := by
  cases b
  · exact plain_star hP n w hT
  · exact plain_under hP n w hT
end Go.Proofs.YtboeaofcioolnaaDoor
