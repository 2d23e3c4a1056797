/- Law 7's BlockNumbers, walked. -/
import Derived.Test.YtmbcddehacfpgaaGreatDoorMt27
import Derived.Test.YtmbcddehacfpgaaGreatDoorMt04
namespace Go.Proofs.YtmbcddehacfpgaaGreatDoor
open Go.RowKit
attribute [local go_sem] canOp readsAs readUpon

theorem numEI : EI Tryz.prog 26 3 1 8 := EI.mk' (z := .int .i64 0) Tryz.underlying26 (by kernel_rfl) rfl (by omega)

set_option maxHeartbeats 4000000 in
set_option maxRecDepth 100000 in
theorem tape_any (k : Nat) (hk : k ≤ 1000) (w : World) :
    Calls Tryz.prog 7 #[.int .i64 (k : Int)] w fun e w' => ∃ (A : Option Addr) (c : Nat) (xs : List Int), e = .returned (.slice A xs.length c) ∧ xs.length ≤ c ∧ xs.length ≤ 900 ∧ Row w' w'.heap.size 1 A xs.length (icells xs) ∧ Below w.heap.size w w' := by
  go_enter Tryz.func7, Tryz.ntmps7
  go_wp2_with fail
  go_loopw [3, 4] (fun v i wr => ∃ (j : Nat) (xs : List Int), i = .int .i64 (j : Int) ∧ xs.length = j ∧ j ≤ 900 ∧ Hid (wr.ownsRow w.heap.size 3 1 v j (icells xs)) ∧ Hid (Below w.heap.size w wr)) (fun _ i _ => 900 - (intOf i).toNat)
  case atStart => exact ⟨0, [], rfl, rfl, by omega, Lib.hid ⟨rfl, .inl ⟨rfl, rfl⟩⟩, Lib.hid (Below.refl _ _)⟩
  case round =>
    obtain ⟨j, xs, rfl, hj, hj9, hown, hb⟩ := hrel
    obtain ⟨A, c, rfl, hc⟩ := own_shape hown.out
    have hbz := hb.out.size
    rcases Nat.lt_or_ge j 900 with hlt | hge
    · have hlt' : (j : Int) < 900 := by omega
      go_wp2_with (at_builtin; refine wpList_app_new rfl (.tmp 9) (.tmp 22) rfl numEI rfl hown.out rfl rfl rfl (by intro u hu; simp at hu; subst hu; rfl) (by omega) (by omega) (by omega) ?_; intro v4 w4 hown4 hg4 hb4)
      go_roundw
      case rel => exact ⟨j + 1, xs ++ [_], by go_num, by rw [List.length_append, hj]; rfl, by omega, Lib.hid (by
          unfold icells
          rw [List.map_append]
          exact hown4), Lib.hid (hb.out.trans hb4)⟩
      case measure => simp [intOf]; omega
    · have hge' : (900 : Int) ≤ (j : Int) := by omega
      go_wp2_with fail
      go_ret
      subst hj
      exact ⟨A, c, xs, rfl, hc, hj9, Row.own hown.out, hb.out⟩

set_option maxHeartbeats 4000000 in
set_option maxRecDepth 100000 in
theorem lines_any (n : Nat) (hn : n ≤ 10000) (w : World) :
    Calls Tryz.prog 6 #[.int .i64 (n : Int), .int .i64 7] w fun e w' => ∃ (A : Option Addr) (c : Nat) (l : List UInt8), e = .returned (.slice A l.length c) ∧ l.length ≤ c ∧ l.length ≤ 100000 ∧ Row w' w'.heap.size 1 A l.length (bcells l) ∧ Below w.heap.size w w' := by
  have hlt := ext_alloc w (.cells #[.string ⟨#[97, 10]⟩, .string ⟨#[10]⟩, .string ⟨#[62, 32, 98, 10]⟩, .string ⟨#[45, 32, 99, 10]⟩, .string ⟨#[32, 32, 100, 10]⟩, .string ⟨#[126, 126, 126, 10]⟩, .string ⟨#[35, 32, 101, 10]⟩] 9)
  have hal := heap_alloc_new w (.cells #[.string ⟨#[97, 10]⟩, .string ⟨#[10]⟩, .string ⟨#[62, 32, 98, 10]⟩, .string ⟨#[45, 32, 99, 10]⟩, .string ⟨#[32, 32, 100, 10]⟩, .string ⟨#[126, 126, 126, 10]⟩, .string ⟨#[35, 32, 101, 10]⟩] 9)
  have hsh : ∀ j, j < 7 → ∃ s, (w.alloc (.cells #[.string ⟨#[97, 10]⟩, .string ⟨#[10]⟩, .string ⟨#[62, 32, 98, 10]⟩, .string ⟨#[45, 32, 99, 10]⟩, .string ⟨#[32, 32, 100, 10]⟩, .string ⟨#[126, 126, 126, 10]⟩, .string ⟨#[35, 32, 101, 10]⟩] 9)).cell? ⟨w.heap.size, j, none⟩ = some (.string (bs s)) ∧ s.length ≤ 4 := fun j hj => lit_short (n := 4) hal (by kernel_rfl) hj
  replace hlt := Lib.hid hlt
  replace hsh := Lib.hid hsh
  clear hal
  go_enter Tryz.func6, Tryz.ntmps6
  go_wp2_with fail
  generalize w.alloc (.cells #[.string ⟨#[97, 10]⟩, .string ⟨#[10]⟩, .string ⟨#[62, 32, 98, 10]⟩, .string ⟨#[45, 32, 99, 10]⟩, .string ⟨#[32, 32, 100, 10]⟩, .string ⟨#[126, 126, 126, 10]⟩, .string ⟨#[35, 32, 101, 10]⟩] 9) = wt at hlt hsh ⊢
  go_loopw [6, 7] (fun v kv wr => wr = wt ∧ ∃ (s : List UInt8) (k : Nat), v = .string (bs s) ∧ kv = .int .i64 (k : Int) ∧ s.length + 4 * k ≤ 4 * n) (fun _ kv _ => (intOf kv).toNat)
  case atStart => exact ⟨rfl, [], n, rfl, rfl, by simp⟩
  case round =>
    obtain ⟨rfl, s, k, rfl, rfl, hsk⟩ := hrel
    have hzs := bs_size s
    rcases k with _ | m
    · have hrb := run_bytes s
      go_wp2_with fail
      go_ret
      exact ⟨_, _, s, rfl, grownCap_ge _ _ _ _, by omega, row_bytes _ s, hlt.out.trans ((below_bytes _ _).mono hlt.out.size)⟩
    · obtain ⟨r, hr, hr7⟩ : ∃ r : Nat, (m : Int).tmod 7 = (r : Int) ∧ r < 7 := ⟨m % 7, by rw [Int.tmod_eq_emod_of_nonneg (by omega)]; omega, Nat.mod_lt _ (by omega)⟩
      obtain ⟨q, hq, hqm⟩ : ∃ q : Nat, (m : Int).tdiv 7 = (q : Int) ∧ q ≤ m := ⟨m / 7, by rw [Int.tdiv_eq_ediv_of_nonneg (by omega)]; omega, Nat.div_le_self _ _⟩
      obtain ⟨t, ht, ht4⟩ := hsh.out r hr7
      have hzt := bs_size t
      have hr0 : (0 : Int) ≤ (r : Int) := by omega
      have hr1 : (r : Int) < 7 := by omega
      have hm1 : ((m + 1 : Nat) : Int) - 1 = (m : Int) := by omega
      have hm0 : (0 : Int) < ((m + 1 : Nat) : Int) := by omega
      go_wp2_with fail
      go_roundw
      case rel => exact ⟨trivial, s ++ t, q, by rw [bs_append], rfl, by rw [List.length_append]; omega⟩
      case measure => simp [intOf]; omega

theorem reads_conv (l : List UInt8) (w : World) (h : l.length ≤ 1000000) :
    Calls Tryz.prog 5 #[.slice (some ⟨w.heap.size, 0, none⟩) l.length (grownCap w l.length 0 5)] (Lib.bytesWorld w 5 (bs l)) fun e w' => e = .returned (.bool true) ∧ Below w.heap.size w w' := by
  refine (reads_any l _ _ _ (row_bytes w l) (grownCap_ge _ _ _ _) (by omega)).mono ?_
  rintro e w' ⟨rfl, hb⟩
  exact ⟨rfl, ext_trans (below_bytes w (bs l)) hb⟩

set_option maxHeartbeats 8000000 in
set_option maxRecDepth 100000 in
theorem numbers_any (w : World) : Calls Tryz.prog 3 #[] w fun e w' => e = .returned (.bool true) ∧ Below w.heap.size w w' := by
  go_enter Tryz.func3, Tryz.ntmps3
  go_wp2_with fail
  go_loopw [1] (fun i wr => ∃ k : Nat, i = .int .i64 (k : Int) ∧ k ≤ 2801 ∧ Hid (Below w.heap.size w wr)) (fun i _ => 2801 - (intOf i).toNat)
  case atStart => exact ⟨0, rfl, by omega, Lib.hid (Below.refl _ _)⟩
  case round =>
    obtain ⟨k, rfl, hk, hb⟩ := hrel
    rcases Nat.lt_or_ge k 2801 with hlt | hge
    · have hlt' : (k : Int) < 2801 := by omega
      go_wp2_with fail
      refine (lines_any k (by omega) wr).mono ?_
      rintro e w1 ⟨A, c, l, rfl, hlc, hl, hR, hb1⟩
      have hB1 := Lib.hid (ext_trans hb.out hb1)
      clear hb1
      go_wp2_with fail
      refine (reads_any l A c w1 hR hlc (by omega)).mono ?_
      rintro e w2 ⟨rfl, hb2⟩
      have hB2 := Lib.hid (ext_trans hB1.out hb2)
      clear hb2 hR
      go_wp2_with fail
      go_roundw
      case rel => exact ⟨k + 1, by go_num, by omega, hB2⟩
      case measure => simp [intOf]; omega
    · have hge' : (2801 : Int) ≤ (k : Int) := by omega
      go_wp2_with fail
      go_loopw [2] (fun i wr2 => ∃ k : Nat, i = .int .i64 (k : Int) ∧ k ≤ 40 ∧ Hid (Below w.heap.size w wr2)) (fun i _ => 40 - (intOf i).toNat)
      case atStart => exact ⟨0, rfl, by omega, hb⟩
      case round =>
        obtain ⟨k, rfl, hk, hb⟩ := hrel
        rcases Nat.lt_or_ge k 40 with hlt | hge
        · have hlt' : (k : Int) < 40 := by omega
          go_wp2_with fail
          refine (tape_any k (by omega) wr).mono ?_
          rintro e w1 ⟨A, c, xs, rfl, hxc, hxl, hR, hb1⟩
          have hB1 := Lib.hid (ext_trans hb.out hb1)
          have hT := Lib.hid (tape_new w1 xs A c hR hxc (by omega))
          have hbA := Lib.hid (ext_alloc w1 (.cells #[.slice A xs.length c, .int .i64 0] 29))
          have hzA : (w1.alloc (.cells #[.slice A xs.length c, .int .i64 0] 29)).heap.size = w1.heap.size + 1 := by simp
          have hm := Lib.hid (fun w' h => markdown_any w' w1.heap.size h 40 (by omega) 40 rfl)
          clear hb1 hR
          go_wp2_with fail
          generalize w1.alloc (.cells #[.slice A xs.length c, .int .i64 0] 29) = wa at hT hbA hzA ⊢
          refine (hm.out wa hT.out).mono ?_
          rintro e w2 ⟨vx, lx, rfl, hox, hlx, _, hb2⟩
          obtain ⟨Ax, cx, rfl, hcx⟩ := own_shape hox
          have hB2 := Lib.hid (ext_trans hB1.out (hbA.out.trans hb2))
          replace hox := Lib.hid hox
          clear hb2 hbA hm hT
          go_wp2_with fail
          refine (reads_any lx Ax cx w2 (Row.own hox.out) hcx (by omega)).mono ?_
          rintro e w3 ⟨rfl, hb3⟩
          have hB3 := Lib.hid (ext_trans hB2.out hb3)
          clear hb3
          go_wp2_with fail
          go_roundw
          case rel => exact ⟨k + 1, by go_num, by omega, hB3⟩
          case measure => simp [intOf]; omega
        · have hge' : (40 : Int) ≤ (k : Int) := by omega
          go_wp2_with fail
          go_loopw [3, 4] (fun v i wr3 => ∃ (k : Nat) (s : List UInt8), i = .int .i64 (k : Int) ∧ k ≤ 43 ∧ v = .string (bs s) ∧ s.length ≤ 2 * k ∧ Hid (Below w.heap.size w wr3)) (fun _ i _ => 43 - (intOf i).toNat)
          case atStart => exact ⟨0, [], rfl, by omega, rfl, by simp, hb⟩
          case round =>
            obtain ⟨k, s, rfl, hk, rfl, hsl, hb⟩ := hrel
            have hzs := bs_size s
            rcases Nat.lt_or_ge k 43 with hlt | hge
            · have hlt' : (k : Int) < 43 := by omega
              obtain ⟨S, hS⟩ : ∃ S, s ++ [97, 10, 98, 10] = S := ⟨_, rfl⟩
              have e1 : bs s ++ ⟨#[97, 10, 98, 10]⟩ = bs S := by rw [← hS, show (⟨#[97, 10, 98, 10]⟩ : ByteArray) = bs [97, 10, 98, 10] from rfl, bs_append]
              have hSl : S.length ≤ 90 := by rw [← hS, List.length_append]; simp only [List.length_cons, List.length_nil]; omega
              have hsl9 : s.length ≤ 86 := by omega
              have hzS := bs_size S
              have hc1 := run_bytes S
              have hc2 := run_bytes s
              clear hS
              replace hsl := Lib.hid hsl
              go_wp2_with fail
              refine (reads_conv S wr (by omega)).mono ?_
              rintro e w1 ⟨rfl, hb1⟩
              have hB1 := Lib.hid (ext_trans hb.out hb1)
              clear hb1
              go_wp2_with fail
              refine (reads_conv s w1 (by omega)).mono ?_
              rintro e w2 ⟨rfl, hb2⟩
              have hB2 := Lib.hid (ext_trans hB1.out hb2)
              have hB3 := Lib.hid (hB2.out.trans ((ext_alloc w2 (.cells #[.string ⟨#[62, 32]⟩, .string ⟨#[45, 32]⟩] 9)).mono hB2.out.size))
              have hal := heap_alloc_new w2 (.cells #[.string ⟨#[62, 32]⟩, .string ⟨#[45, 32]⟩] 9)
              have hsh : ∀ j, j < 2 → ∃ s, (w2.alloc (.cells #[.string ⟨#[62, 32]⟩, .string ⟨#[45, 32]⟩] 9)).cell? ⟨w2.heap.size, j, none⟩ = some (.string (bs s)) ∧ s.length ≤ 2 := fun j hj => lit_short (n := 2) hal (by kernel_rfl) hj
              obtain ⟨r, hr, hr2⟩ : ∃ r : Nat, (k : Int).tmod 2 = (r : Int) ∧ r < 2 := ⟨k % 2, by rw [Int.tmod_eq_emod_of_nonneg (by omega)]; omega, Nat.mod_lt _ (by omega)⟩
              obtain ⟨t, ht, ht2⟩ := hsh r hr2
              have hzt := bs_size t
              have hr0 : (0 : Int) ≤ (r : Int) := by omega
              have hr1 : (r : Int) < 2 := by omega
              have hk0 : (0 : Int) ≤ (k : Int) := by omega
              clear hb2 hc1 hc2 hal hsh
              go_wp2_with fail
              go_roundw
              case rel => exact ⟨k + 1, s ++ t, by go_num, by omega, by rw [bs_append], by have := hsl.out; rw [List.length_append]; omega, hB3⟩
              case measure => simp [intOf]; omega
            · have hge' : (43 : Int) ≤ (k : Int) := by omega
              go_wp2_with fail
              refine (bknown_any wr).mono ?_
              rintro e w1 ⟨rfl, hb1⟩
              go_wp2_with fail
              go_ret
              exact ⟨rfl, ext_trans hb.out hb1⟩
end Go.Proofs.YtmbcddehacfpgaaGreatDoor
