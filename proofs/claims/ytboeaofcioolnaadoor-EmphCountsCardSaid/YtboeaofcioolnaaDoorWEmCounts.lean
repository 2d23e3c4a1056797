/- Law 10, two runs of as many signs. What the program's Match does is a premise. -/
import Derived.Test.YtboeaofcioolnaaDoorEmKnown
import Derived.Test.YtboeaofcioolnaaDoorBit64
namespace Go.Proofs.YtboeaofcioolnaaDoor
open Go.RowKit

theorem pd_none : ∀ k < 64, Em.pairs [⟨42, ((k : Nat) : Int), true, false⟩, ⟨95, ((k : Nat) : Int), false, true⟩] = [] := by decide +kernel

theorem pc_star : ∀ k < 64, (∀ x ∈ Em.pairs [⟨42, ((k : Nat) : Int), true, false⟩, ⟨42, ((k : Nat) : Int), false, true⟩], x.1 = 0 ∧ x.2.1 = 1 ∧ x.2.2 ≤ 2) ∧ ((Em.pairs [⟨42, ((k : Nat) : Int), true, false⟩, ⟨42, ((k : Nat) : Int), false, true⟩]).map fun x => x.2.2).sum = k ∧
    (Em.pairs [⟨42, ((k : Nat) : Int), true, false⟩, ⟨42, ((k : Nat) : Int), false, true⟩]).length = (k + 1) / 2 := by decide +kernel
set_option maxHeartbeats 4000000 in
set_option maxRecDepth 100000 in
theorem counts_star (hP : PMatch) (n : Int) (w : World) (hT : Tabs w) :
    Calls Tryd.prog 7 #[.int .i64 n, .bool false] w fun e w' => e = .returned (.bool true) ∧ Below w.heap.size w w' := by
  have h7 := i64_and63 n
  obtain ⟨k, hk⟩ : ∃ k : Nat, n % 64 = (k : Int) := ⟨(n % 64).toNat, by omega⟩
  have hk8 : k < 64 := by omega
  rw [hk] at h7
  replace hk := Lib.hid hk
  obtain ⟨k1, k2, k3⟩ := pc_star k hk8
  have k4 := pd_none k hk8
  have q1 := fun A c wz hz => hP [⟨42, (k : Int), true, false⟩, ⟨42, (k : Int), false, true⟩] A c wz hz (by simp)
  have q2 := fun A c wz hz => hP [⟨42, (k : Int), true, false⟩, ⟨95, (k : Int), false, true⟩] A c wz hz (by simp)
  rw [k4] at q2
  obtain ⟨X, hX⟩ : ∃ X, X = Em.pairs [⟨42, ((k : Nat) : Int), true, false⟩, ⟨42, ((k : Nat) : Int), false, true⟩] := ⟨_, rfl⟩
  rw [← hX] at k1 k2 k3 q1
  clear hX k4
  replace hP := Lib.hid hP
  replace k1 := Lib.hid k1
  replace k2 := Lib.hid k2
  replace q1 := Lib.hid q1
  replace q2 := Lib.hid q2
  have hXn : X.length ≤ 32 := by omega
  replace k3 := Lib.hid k3
  replace hT := Lib.hid hT
  go_enter Tryd.func7, Tryd.ntmps7
  go_wp2_with fail
  refine (q1.out _ _ _ (row_new w 29 #[.int .u8 42, .int .i64 (k : Int), .bool true, .bool false, .int .u8 42, .int .i64 (k : Int), .bool false, .bool true] (n := 2) (size := 4) rfl rfl)).mono ?_
  rintro e w1 ⟨⟨v, rfl, ho⟩, hb1⟩
  replace hb1 := Lib.hid (ext_trans (ext_alloc w _) hb1)
  obtain ⟨A, c1, rfl, hc1⟩ := own_shape ho
  replace ho := Lib.hid ho
  clear q1
  go_wp2_with fail
  go_loopw [8, 25] (fun sv i wr => ∃ j : Nat, j ≤ X.length ∧ i = .int .i64 j ∧ sv = .int .i64 ((((X.take j).map fun x => x.2.2).sum : Nat) : Int) ∧ Hid (Below w1.heap.size w1 wr)) (fun _ i _ => X.length - (intOf i).toNat)
  case atStart => exact ⟨0, Nat.zero_le _, rfl, rfl, Lib.hid (Below.refl _ _)⟩
  case round =>
    obtain ⟨j, hj, rfl, rfl, hb⟩ := hrel
    by_cases hjl : j < X.length
    · obtain ⟨g, rfl⟩ : ∃ g, A = some ⟨g, 0, none⟩ := by
        rcases ho.out.2 with ⟨hv, h0⟩ | ⟨g, cap, cur, hv, _⟩
        · omega
        · injection hv with h1 _ _; exact ⟨g, h1⟩
      obtain ⟨x0, x1, x2⟩ := pairsAt_own (own_below ho.out hb.out) j hjl
      obtain ⟨m0, m1, m2⟩ := k1.out X[j] (List.getElem_mem hjl)
      have hgw : g < wr.heap.size := Nat.lt_of_lt_of_le (ho.out.lt g rfl).2 hb.out.size
      have hsum : ((X.take (j + 1)).map fun x => x.2.2).sum = ((X.take j).map fun x => x.2.2).sum + X[j].2.2 := by rw [List.take_succ_eq_append_getElem hjl, List.map_append, List.sum_append]; simp
      have hle : ((X.take j).map fun x => x.2.2).sum ≤ 64 := by
        have e : (X.map fun x => x.2.2).sum = ((X.take j).map fun x => x.2.2).sum + ((X.drop j).map fun x => x.2.2).sum := by rw [← List.sum_append, ← List.map_append, List.take_append_drop]
        have := k2.out
        omega
      rw [m0] at x0
      rw [m1] at x1
      generalize X[j].2.2 = s at *
      generalize ((X.take j).map fun x => x.2.2).sum = S at *
      replace hsum := Lib.hid hsum
      clear m0 m1
      go_wp2_with fail
      go_roundw
      case rel => exact ⟨j + 1, hjl, by go_num, by rw [hsum.out]; go_num, Lib.hid (hb.out.alloc hb.out.size _)⟩
      case measure => simp [intOf]; omega
    · have hje : j = X.length := by omega
      subst hje
      have hs : ((X.take X.length).map fun x => x.2.2).sum = k := by rw [List.take_length]; exact k2.out
      rw [hs]
      clear hs
      have hbr := Lib.hid (ext_trans hb1.out hb.out)
      have hlen : Hid (((X.length : Nat) : Int) = ((k : Int) + 1) / 2) := Lib.hid (by have := k3.out; omega)
      generalize X.length = L at *
      go_wp2_with fail
      refine (q2.out _ _ _ (row_new wr 29 #[.int .u8 42, .int .i64 (k : Int), .bool true, .bool false, .int .u8 95, .int .i64 (k : Int), .bool false, .bool true] (n := 2) (size := 4) rfl rfl)).mono ?_
      rintro e w3 ⟨⟨v, rfl, ho3⟩, hb3⟩
      obtain ⟨A3, c3, rfl, hc3⟩ := own_shape ho3
      replace hb3 := Lib.hid (ext_trans hbr.out (ext_trans (ext_alloc _ _) hb3))
      have t1 : ((L : Int) == ((k : Int) + 1) / 2) = true := by rw [hlen.out]; simp
      have t2 : ((L : Int) == ((k : Int) + 1).tdiv 2) = true := by rw [hlen.out, Int.tdiv_eq_ediv_of_nonneg (by omega)]; simp
      clear ho3 q2
      go_wp2_with fail
      refine (known_any hP.out _ (tabs_below hT.out hb3.out)).mono ?_
      rintro e w4 ⟨rfl, hb4⟩
      replace hb4 := Lib.hid (ext_trans hb3.out hb4)
      go_wp2_with fail
      go_ret
      exact ⟨rfl, hb4.out⟩

theorem pc_under : ∀ k < 64, (∀ x ∈ Em.pairs [⟨95, ((k : Nat) : Int), true, false⟩, ⟨95, ((k : Nat) : Int), false, true⟩], x.1 = 0 ∧ x.2.1 = 1 ∧ x.2.2 ≤ 2) ∧ ((Em.pairs [⟨95, ((k : Nat) : Int), true, false⟩, ⟨95, ((k : Nat) : Int), false, true⟩]).map fun x => x.2.2).sum = k ∧
    (Em.pairs [⟨95, ((k : Nat) : Int), true, false⟩, ⟨95, ((k : Nat) : Int), false, true⟩]).length = (k + 1) / 2 := by decide +kernel
set_option maxHeartbeats 4000000 in
set_option maxRecDepth 100000 in
theorem counts_under (hP : PMatch) (n : Int) (w : World) (hT : Tabs w) :
    Calls Tryd.prog 7 #[.int .i64 n, .bool true] w fun e w' => e = .returned (.bool true) ∧ Below w.heap.size w w' := by
  have h7 := i64_and63 n
  obtain ⟨k, hk⟩ : ∃ k : Nat, n % 64 = (k : Int) := ⟨(n % 64).toNat, by omega⟩
  have hk8 : k < 64 := by omega
  rw [hk] at h7
  replace hk := Lib.hid hk
  obtain ⟨k1, k2, k3⟩ := pc_under k hk8
  have k4 := pd_none k hk8
  have q1 := fun A c wz hz => hP [⟨95, (k : Int), true, false⟩, ⟨95, (k : Int), false, true⟩] A c wz hz (by simp)
  have q2 := fun A c wz hz => hP [⟨42, (k : Int), true, false⟩, ⟨95, (k : Int), false, true⟩] A c wz hz (by simp)
  rw [k4] at q2
  obtain ⟨X, hX⟩ : ∃ X, X = Em.pairs [⟨95, ((k : Nat) : Int), true, false⟩, ⟨95, ((k : Nat) : Int), false, true⟩] := ⟨_, rfl⟩
  rw [← hX] at k1 k2 k3 q1
  clear hX k4
  replace hP := Lib.hid hP
  replace k1 := Lib.hid k1
  replace k2 := Lib.hid k2
  replace q1 := Lib.hid q1
  replace q2 := Lib.hid q2
  have hXn : X.length ≤ 32 := by omega
  replace k3 := Lib.hid k3
  replace hT := Lib.hid hT
  go_enter Tryd.func7, Tryd.ntmps7
  go_wp2_with fail
  refine (q1.out _ _ _ (row_new w 29 #[.int .u8 95, .int .i64 (k : Int), .bool true, .bool false, .int .u8 95, .int .i64 (k : Int), .bool false, .bool true] (n := 2) (size := 4) rfl rfl)).mono ?_
  rintro e w1 ⟨⟨v, rfl, ho⟩, hb1⟩
  replace hb1 := Lib.hid (ext_trans (ext_alloc w _) hb1)
  obtain ⟨A, c1, rfl, hc1⟩ := own_shape ho
  replace ho := Lib.hid ho
  clear q1
  go_wp2_with fail
  go_loopw [8, 25] (fun sv i wr => ∃ j : Nat, j ≤ X.length ∧ i = .int .i64 j ∧ sv = .int .i64 ((((X.take j).map fun x => x.2.2).sum : Nat) : Int) ∧ Hid (Below w1.heap.size w1 wr)) (fun _ i _ => X.length - (intOf i).toNat)
  case atStart => exact ⟨0, Nat.zero_le _, rfl, rfl, Lib.hid (Below.refl _ _)⟩
  case round =>
    obtain ⟨j, hj, rfl, rfl, hb⟩ := hrel
    by_cases hjl : j < X.length
    · obtain ⟨g, rfl⟩ : ∃ g, A = some ⟨g, 0, none⟩ := by
        rcases ho.out.2 with ⟨hv, h0⟩ | ⟨g, cap, cur, hv, _⟩
        · omega
        · injection hv with h1 _ _; exact ⟨g, h1⟩
      obtain ⟨x0, x1, x2⟩ := pairsAt_own (own_below ho.out hb.out) j hjl
      obtain ⟨m0, m1, m2⟩ := k1.out X[j] (List.getElem_mem hjl)
      have hgw : g < wr.heap.size := Nat.lt_of_lt_of_le (ho.out.lt g rfl).2 hb.out.size
      have hsum : ((X.take (j + 1)).map fun x => x.2.2).sum = ((X.take j).map fun x => x.2.2).sum + X[j].2.2 := by rw [List.take_succ_eq_append_getElem hjl, List.map_append, List.sum_append]; simp
      have hle : ((X.take j).map fun x => x.2.2).sum ≤ 64 := by
        have e : (X.map fun x => x.2.2).sum = ((X.take j).map fun x => x.2.2).sum + ((X.drop j).map fun x => x.2.2).sum := by rw [← List.sum_append, ← List.map_append, List.take_append_drop]
        have := k2.out
        omega
      rw [m0] at x0
      rw [m1] at x1
      generalize X[j].2.2 = s at *
      generalize ((X.take j).map fun x => x.2.2).sum = S at *
      replace hsum := Lib.hid hsum
      clear m0 m1
      go_wp2_with fail
      go_roundw
      case rel => exact ⟨j + 1, hjl, by go_num, by rw [hsum.out]; go_num, Lib.hid (hb.out.alloc hb.out.size _)⟩
      case measure => simp [intOf]; omega
    · have hje : j = X.length := by omega
      subst hje
      have hs : ((X.take X.length).map fun x => x.2.2).sum = k := by rw [List.take_length]; exact k2.out
      rw [hs]
      clear hs
      have hbr := Lib.hid (ext_trans hb1.out hb.out)
      have hlen : Hid (((X.length : Nat) : Int) = ((k : Int) + 1) / 2) := Lib.hid (by have := k3.out; omega)
      generalize X.length = L at *
      go_wp2_with fail
      refine (q2.out _ _ _ (row_new wr 29 #[.int .u8 42, .int .i64 (k : Int), .bool true, .bool false, .int .u8 95, .int .i64 (k : Int), .bool false, .bool true] (n := 2) (size := 4) rfl rfl)).mono ?_
      rintro e w3 ⟨⟨v, rfl, ho3⟩, hb3⟩
      obtain ⟨A3, c3, rfl, hc3⟩ := own_shape ho3
      replace hb3 := Lib.hid (ext_trans hbr.out (ext_trans (ext_alloc _ _) hb3))
      have t1 : ((L : Int) == ((k : Int) + 1) / 2) = true := by rw [hlen.out]; simp
      have t2 : ((L : Int) == ((k : Int) + 1).tdiv 2) = true := by rw [hlen.out, Int.tdiv_eq_ediv_of_nonneg (by omega)]; simp
      clear ho3 q2
      go_wp2_with fail
      refine (known_any hP.out _ (tabs_below hT.out hb3.out)).mono ?_
      rintro e w4 ⟨rfl, hb4⟩
      replace hb4 := Lib.hid (ext_trans hb3.out hb4)
      go_wp2_with fail
      go_ret
      exact ⟨rfl, hb4.out⟩

theorem counts_said (hP : PMatch) (n : Int) (b : Bool) (w : World) (hT : Tabs w) :
    Calls Tryd.prog 7 #[.int .i64 n, .bool b] w fun e w' => e = .returned (.bool true) ∧ Below w.heap.size w w' := by
  cases b
  · exact counts_star hP n w hT
  · exact counts_under hP n w hT
end Go.Proofs.YtboeaofcioolnaaDoor
