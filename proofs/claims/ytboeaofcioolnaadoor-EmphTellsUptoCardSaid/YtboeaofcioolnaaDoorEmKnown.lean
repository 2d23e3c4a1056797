/- Law 10's own helps: known: some of chapter 10's runs. -/
import Derived.Test.YtboeaofcioolnaaDoorEmMatches
namespace Go.Proofs.YtboeaofcioolnaaDoor
open Go.RowKit

theorem kind_at (l : List UInt8) (s : ByteArray) (a : Int) (v : Value) (hs : bs l = s) (hv : kindV (Em.kind l a) = v) (hl : l.length ≤ 1000000000) (w : World) (hT : Tabs w) :
    Calls Tryd.prog 14 #[.string s, .int .i64 a] w fun e w' => e = .returned v ∧ Below w.heap.size w w' := by
  subst hs hv; exact pkind_any l a (by omega) w hT

set_option maxHeartbeats 4000000 in
set_option maxRecDepth 100000 in
/-- rows of pairs that are alike -/
theorem samePairs_any (X : List (Nat × Nat × Nat)) (A B : Option Addr) (c d : Nat) (w : World) (hx : Row w w.heap.size 3 A X.length (pcells X)) (hy : Row w w.heap.size 3 B X.length (pcells X)) (hl : X.length ≤ 1000000000) :
    Calls Tryd.prog 17 #[.slice A X.length c, .slice B X.length d] w fun e w' => e = .returned (.bool true) ∧ Below w.heap.size w w' := by
  have hX := Lib.hid hx
  have hY := Lib.hid hy
  clear hx hy
  have hne : ((X.length : Int) != (X.length : Int)) = false := by simp
  go_enter Tryd.func17, Tryd.ntmps17
  go_wp2_with fail
  go_loopw [5] (fun i wr => ∃ (k : Nat), k ≤ X.length ∧ i = .int .i64 k ∧ Below w.heap.size w wr) (fun i _ => X.length - (intOf i).toNat)
  case atStart => exact ⟨0, Nat.zero_le _, rfl, Below.refl _ _⟩
  case round =>
    obtain ⟨k, hk, rfl, hb⟩ := hrel
    by_cases hlt : k < X.length
    · obtain ⟨b, o, rfl, hbb, hc⟩ := hX.out.2 (by omega)
      obtain ⟨b', o', rfl, hbb', hc'⟩ := hY.out.2 (by omega)
      have hat := fun i (hi : i < 3) => flat_at (f := pcell) (m := 3) (fun _ => rfl) X k i hlt hi
      have x0 := (hb.cell (p := ⟨b, o + k * 3, none⟩) hbb).trans (hc _ _ ((hat 0 (by omega)).trans rfl))
      have x1 := (hb.cell (p := ⟨b, o + k * 3 + 1, none⟩) hbb).trans (hc _ _ ((hat 1 (by omega)).trans rfl))
      have x2 := (hb.cell (p := ⟨b, o + k * 3 + 2, none⟩) hbb).trans (hc _ _ ((hat 2 (by omega)).trans rfl))
      have y0 := (hb.cell (p := ⟨b', o' + k * 3, none⟩) hbb').trans (hc' _ _ ((hat 0 (by omega)).trans rfl))
      have y1 := (hb.cell (p := ⟨b', o' + k * 3 + 1, none⟩) hbb').trans (hc' _ _ ((hat 1 (by omega)).trans rfl))
      have y2 := (hb.cell (p := ⟨b', o' + k * 3 + 2, none⟩) hbb').trans (hc' _ _ ((hat 2 (by omega)).trans rfl))
      clear hc hc' hat
      generalize X[k] = x at *
      go_wp2_with fail
      go_quiet (fail)
      go_wp2_with fail
      go_roundw
      case rel => exact ⟨k + 1, by omega, by go_num, below_drewN hb _⟩
      case measure => simp [intOf]; omega
    · go_wp2_with fail
      go_ret
      exact ⟨rfl, hb⟩

/-- a row of elements of several cells in a new block -/
theorem row_new (w : World) (E : TypeId) (C : Array Value) {n size : Nat} {xs : List Value} (hn : xs.length = n * size) (hx : C.toList = xs) :
    Row (w.alloc (.cells C E)) (w.alloc (.cells C E)).heap.size size (some ⟨w.heap.size, 0, none⟩) n xs := by
  subst hx
  refine ⟨hn, fun _ => ⟨w.heap.size, 0, rfl, by simp, fun j u hu => ?_⟩⟩
  have := cells_new w C E rfl j u hu
  rwa [show (⟨w.heap.size, 0, none⟩ : Addr).add j = ⟨w.heap.size, 0 + j, none⟩ from by unfold Addr.add; split <;> simp_all] at this

/-- what chapter 10's own run of pairs is -/
def kl : List Em.R := [⟨42, 2, true, false⟩, ⟨42, 3, false, true⟩]
theorem kl_pairs : Em.pairs kl = [(0, 1, 2)] := by decide +kernel

set_option maxHeartbeats 4000000 in
set_option maxRecDepth 100000 in
theorem known_any (hP : PMatch) (w : World) (hT : Tabs w) :
    Calls Tryd.prog 11 #[] w fun e w' => e = .returned (.bool true) ∧ Below w.heap.size w w' := by
  have q1 := kind_at [97, 32, 42, 42, 98] ⟨#[97, 32, 42, 42, 98]⟩ 2 (.tuple #[.agg #[.int .u8 42, .int .i64 2, .bool true, .bool false], .int .i64 4, .bool true]) rfl (by kernel_rfl) (by decide)
  have q2 := kind_at [97] ⟨#[97]⟩ 0 (.tuple #[.agg #[.int .u8 0, .int .i64 0, .bool false, .bool false], .int .i64 0, .bool false]) rfl (by kernel_rfl) (by decide)
  have q3 := kind_at [97, 95, 98] ⟨#[97, 95, 98]⟩ 1 (.tuple #[.agg #[.int .u8 95, .int .i64 1, .bool false, .bool false], .int .i64 2, .bool true]) rfl (by kernel_rfl) (by decide)
  have q4 := fun A c wz hz => hP kl A c wz hz (by decide)
  have q5 := fun wz => hP [] none 0 wz Row.nil (by decide)
  rw [kl_pairs] at q4
  rw [show Em.pairs [] = [] from rfl] at q5
  replace hT := Lib.hid hT
  replace q4 := Lib.hid q4
  replace q5 := Lib.hid q5
  clear hP
  go_enter Tryd.func11, Tryd.ntmps11
  go_wp2_with fail
  refine (q1 _ hT.out).mono ?_
  rintro e w1 ⟨rfl, hb1⟩
  go_upto_region 2 with fail
  generalize hw2 : World.alloc w1 _ = w2
  have h2 := Lib.hid (show w2.heap[w1.heap.size]? = some (.cells #[.int .u8 42, .int .i64 2, .bool true, .bool false] 29 (0, 0)) from by rw [← hw2]; exact heap_alloc_new _ _)
  have hb2 := Lib.hid (show Below w.heap.size w w2 from by rw [← hw2]; exact hb1.alloc hb1.size _)
  have hg1 := hb1.size
  clear hw2 hb1
  go_wp2_with fail
  refine (q2 _ (tabs_below hT.out hb2.out)).mono ?_
  rintro e w3 ⟨rfl, hb3⟩
  have h3 := Lib.hid (keep h2.out hb3).1
  replace hb3 := Lib.hid (ext_trans hb2.out hb3)
  go_upto_region 3 with fail
  generalize hw4 : World.alloc w3 _ = w4
  have hb34 : Below w3.heap.size w3 w4 := by rw [← hw4]; exact ext_alloc _ _
  have h4 := Lib.hid (keep h3.out hb34).1
  have hb4 := Lib.hid (ext_trans hb3.out hb34)
  clear hw4 hb34 h2 h3
  go_wp2_with fail
  refine (q3 _ (tabs_below hT.out hb4.out)).mono ?_
  rintro e w5 ⟨rfl, hb5⟩
  have h5 := Lib.hid (keep h4.out hb5).1
  replace hb5 := Lib.hid (ext_trans hb4.out hb5)
  go_upto_region 4 with fail
  generalize hw6 : World.alloc w5 _ = w6
  have hb56 : Below w5.heap.size w5 w6 := by rw [← hw6]; exact ext_alloc _ _
  have h6 := Lib.hid (keep h5.out hb56).1
  have k6 := Lib.hid (show w6.heap[w5.heap.size]? = some (.cells #[.int .u8 95, .int .i64 1, .bool false, .bool false] 29 (0, 0)) from by rw [← hw6]; exact heap_alloc_new _ _)
  have hb6 := Lib.hid (ext_trans hb5.out hb56)
  clear hw6 hb56 h4 h5
  go_wp2_with fail
  refine (q4.out _ _ _ (row_new w6 29 #[.int .u8 42, .int .i64 2, .bool true, .bool false, .int .u8 42, .int .i64 3, .bool false, .bool true] (n := 2) (size := 4) rfl rfl)).mono ?_
  rintro e w7 ⟨⟨v, rfl, ho⟩, hb7⟩
  replace hb7 := ext_trans (ext_alloc w6 _) hb7
  have h7 := (keep h6.out hb7).1
  have k7 := (keep k6.out hb7).1
  replace hb7 := Lib.hid (ext_trans hb6.out hb7)
  obtain ⟨A, c, rfl, hc⟩ := own_shape ho
  replace ho := Lib.hid ho
  obtain ⟨z0, z1, z2, z3⟩ := four h7
  obtain ⟨y0, y1, y2, y3⟩ := four k7
  clear h7 k7 h6 k6 q1 q2 q3 q4
  go_wp2_with fail
  refine (samePairs_any [(0, 1, 2)] _ _ _ _ _ ((Row.own ho.out).ext (ext_alloc _ _)) (row_new w7 41 #[.int .i64 0, .int .i64 1, .int .i64 2] (n := 1) (size := 3) rfl rfl) (by decide)).mono ?_
  rintro e w8 ⟨rfl, hb8⟩
  replace hb8 := Lib.hid (ext_trans hb7.out (ext_trans (ext_alloc _ _) hb8))
  go_wp2_with fail
  refine (q5.out _).mono ?_
  rintro e w9 ⟨⟨v2, rfl, ho2⟩, hb9⟩
  obtain ⟨A2, c2, rfl, hc2⟩ := own_shape ho2
  replace hb9 := Lib.hid (ext_trans hb8.out hb9)
  go_wp2_with fail
  go_ret
  exact ⟨rfl, hb9.out⟩
end Go.Proofs.YtboeaofcioolnaaDoor
