/- FenceEnds: a fence ends with itself, not with one sign fewer, nor with something behind. -/
import Derived.Test.YtcdpecpjhoejnaaDoorFnSame
import Derived.Test.YtcdpecpjhoejnaaDoorFnLines
import Derived.Laws.Bits128
namespace Go.Proofs.YtcdpecpjhoejnaaDoor
open Go.RowKit
attribute [local go_sem] canOp readsAs readUpon

theorem i64_and3 (n : Int) : bits .and .i64 n 3 = n % 4 := by
  have h127 : (BitVec.ofInt 64 3).toNat = 2 ^ 2 - 1 := by decide
  have key : (BitVec.ofInt 64 n &&& BitVec.ofInt 64 3).toNat = (n % ((2 ^ 64 : Nat) : Int)).toNat % 2 ^ 2 := by
    rw [BitVec.toNat_and, BitVec.toNat_ofInt, h127, Nat.and_two_pow_sub_one_eq_mod]
  show IntKind.i64.wrap ((BitVec.ofInt 64 n &&& BitVec.ofInt 64 3).toNat : Nat) = n % 4
  rw [key, IntKind.wrap_i64]
  omega
theorem i64_and7 (n : Int) : bits .and .i64 n 7 = n % 8 := by
  have h127 : (BitVec.ofInt 64 7).toNat = 2 ^ 3 - 1 := by decide
  have key : (BitVec.ofInt 64 n &&& BitVec.ofInt 64 7).toNat = (n % ((2 ^ 64 : Nat) : Int)).toNat % 2 ^ 3 := by
    rw [BitVec.toNat_and, BitVec.toNat_ofInt, h127, Nat.and_two_pow_sub_one_eq_mod]
  show IntKind.i64.wrap ((BitVec.ofInt 64 n &&& BitVec.ofInt 64 7).toNat : Nat) = n % 8
  rw [key, IntKind.wrap_i64]
  omega

/-- so many of one sign, cut off a longer row of it -/
theorem run_signs {x : UInt8} {N k : Nat} {s : ByteArray} (hs : bs (List.replicate N x) = s) {v : Int} (hv : v = (k : Int)) (h : k ≤ N) (w : World) :
    (Instr.slice 9 (.string s) none (some (.int .i64 v)) none).run Tryd.prog w = .ok (.string (bs (List.replicate k x))) w := by
  subst hs hv
  have := run_upto (S := List.replicate N x) (i := k) (by simpa using h) w
  rwa [List.take_replicate, Nat.min_eq_left h] at this

theorem below_ext_drewN {w w1 : World} {n : Nat} (h : Below (w.drewN n).heap.size (w.drewN n) w1) : Below w.heap.size w w1 := ext_trans (below_drewN (Below.refl _ w) n) h

abbrev endsCall (f : Value) (t : ByteArray) (b : Bool) : Prop :=
  ∀ w, Calls Tryd.prog 11 #[f, .string t] w fun e w' => e = .returned (.bool b) ∧ Below w.heap.size w w'

theorem ends_facts (x : UInt8) (xv : Int) (hxv : (x.toNat : Int) = xv) (hx : x = 96 ∨ x = 126) (j m : Nat) (hj : j ≤ 3) (hm : m ≤ 7) (sg : ByteArray) (hsg : bs (List.replicate 18 x) = sg) :
    ∃ L : List UInt8, L.length ≤ 13 ∧ bs (List.replicate j 32) ++ bs (List.replicate (3 + m) x) = bs L ∧
      (∀ w, Calls Tryd.prog 14 #[.string (bs L)] w fun e w' => e = .returned (.tuple #[.agg #[.int .u8 xv, .int .i64 (3 + (m : Int)), .int .i64 (j : Int), .string ⟨#[]⟩], .bool true]) ∧ Below w.heap.size w w') ∧
      endsCall (.agg #[.int .u8 xv, .int .i64 (3 + (m : Int)), .int .i64 (j : Int), .string ⟨#[]⟩]) (bs L) true ∧
      endsCall (.agg #[.int .u8 xv, .int .i64 (3 + (m : Int)), .int .i64 (j : Int), .string ⟨#[]⟩]) (bs L ++ ⟨#[32, 9]⟩) true ∧
      endsCall (.agg #[.int .u8 xv, .int .i64 (3 + (m : Int)), .int .i64 (j : Int), .string ⟨#[]⟩]) sg true ∧
      endsCall (.agg #[.int .u8 xv, .int .i64 (3 + (m : Int)), .int .i64 (j : Int), .string ⟨#[]⟩]) (bs L ++ ⟨#[97]⟩) false ∧
      endsCall (.agg #[.int .u8 xv, .int .i64 (3 + (m : Int)), .int .i64 (j : Int), .string ⟨#[]⟩]) (bs (List.replicate (2 + m) x)) false ∧
      endsCall (.agg #[.int .u8 xv, .int .i64 (3 + (m : Int)), .int .i64 (j : Int), .string ⟨#[]⟩]) (⟨#[32, 32, 32, 32]⟩ ++ bs L) false := by
  subst hxv hsg
  have hcast : ((3 + m : Nat) : Int) = 3 + (m : Int) := by omega
  have hfv : fv x (3 + (m : Int)) (j : Int) ⟨#[]⟩ = .agg #[.int .u8 (x.toNat : Int), .int .i64 (3 + (m : Int)), .int .i64 (j : Int), .string ⟨#[]⟩] := rfl
  have hrr : List.replicate 4 (32 : UInt8) ++ List.replicate j 32 = List.replicate (4 + j) 32 := by rw [List.replicate_append_replicate]
  have e := fun (T : List UInt8) (b : Bool) (hl : T.length ≤ 100) (h : Fn.ends x (3 + (m : Int)) T = b) w => by
    have := ends_any x (3 + (m : Int)) (j : Int) ⟨#[]⟩ T w (by omega)
    rwa [h, hfv] at this
  refine ⟨List.replicate j 32 ++ List.replicate (3 + m) x, by simp; omega, bs_append _ _, ?_, ?_, ?_, ?_, ?_, ?_, ?_⟩
  · intro w
    have := begins_any (List.replicate j 32 ++ List.replicate (3 + m) x) w (by simp; omega)
    rw [Fn.self_begins hx hj (by omega)] at this
    simp only [begv, opv, hcast] at this
    exact this
  · refine e _ _ (by simp; omega) ?_
    have := Fn.self_ends (i := j) (k := 3 + m) (m := 3 + m) hx (by omega) (by omega) [] rfl
    rw [List.append_nil, hcast] at this
    rw [this, decide_eq_true (by omega)]; rfl
  · rw [show (⟨#[32, 9]⟩ : ByteArray) = bs [32, 9] from rfl, bs_append, List.append_assoc]
    refine e _ _ (by simp; omega) ?_
    have := Fn.self_ends (i := j) (k := 3 + m) (m := 3 + m) hx (by omega) (by omega) [32, 9] (by rcases hx with rfl | rfl <;> rfl)
    rw [hcast] at this
    rw [this, decide_eq_true (by omega)]; rfl
  · refine e _ _ (by simp) ?_
    have := Fn.self_ends (i := 0) (k := 18) (m := 3 + m) hx (by omega) (by omega) [] rfl
    rw [List.append_nil, hcast] at this
    rw [show List.replicate 18 x = List.replicate 0 32 ++ List.replicate 18 x from rfl, this, decide_eq_true (by omega)]; rfl
  · rw [show (⟨#[97]⟩ : ByteArray) = bs [97] from rfl, bs_append, List.append_assoc]
    refine e _ _ (by simp; omega) ?_
    have := Fn.self_ends (i := j) (k := 3 + m) (m := 3 + m) hx (by omega) (by omega) [97] (by rcases hx with rfl | rfl <;> rfl)
    rw [hcast] at this
    rw [this, show Fn.emp [97] = false from by kernel_rfl, Bool.and_false]
  · refine e _ _ (by simp; omega) ?_
    have := Fn.self_ends (i := 0) (k := 2 + m) (m := 3 + m) hx (by omega) (by omega) [] rfl
    rw [List.append_nil, hcast] at this
    rw [show List.replicate (2 + m) x = List.replicate 0 32 ++ List.replicate (2 + m) x from rfl, this, decide_eq_false (by omega)]; rfl
  · rw [show (⟨#[32, 32, 32, 32]⟩ : ByteArray) = bs (List.replicate 4 32) from rfl, bs_append, ← List.append_assoc, hrr]
    refine e _ _ (by simp; omega) ?_
    have := Fn.self_ends (i := 4 + j) (k := 3 + m) (m := 3 + m) hx (by omega) (by omega) [] rfl
    rw [List.append_nil, hcast] at this
    rw [this, decide_eq_false (by omega)]; rfl

set_option maxHeartbeats 8000000 in
set_option maxRecDepth 100000 in
theorem ends_law (c : Bool) (n i : Int) (w : World) (_h1 : -9223372036854775808 ≤ n ∧ n ≤ 9223372036854775807) (_h2 : -9223372036854775808 ≤ i ∧ i ≤ 9223372036854775807) :
    Calls Tryd.prog 6 #[.bool c, .int .i64 n, .int .i64 i] w fun e w' => e = .returned (.bool true) ∧ Below w.heap.size w w' := by
  obtain ⟨j, hj3, hj⟩ : ∃ j : Nat, bits .and .i64 i 3 = (j : Int) ∧ j ≤ 3 := ⟨(i % 4).toNat, by rw [i64_and3]; omega, by omega⟩
  obtain ⟨m, hm7, hm⟩ : ∃ m : Nat, bits .and .i64 n 7 = (m : Int) ∧ m ≤ 7 := ⟨(n % 8).toNat, by rw [i64_and7]; omega, by omega⟩
  have hs1 := run_signs (x := 32) (N := 3) (k := j) (s := ⟨#[32, 32, 32]⟩) rfl (v := (j : Int)) rfl hj
  have hwr3 : IntKind.i64.wrap (3 + (m : Int)) = 3 + (m : Int) := by rw [IntKind.wrap_i64]; omega
  have hwr2 : IntKind.i64.wrap (2 + (m : Int)) = 2 + (m : Int) := by rw [IntKind.wrap_i64]; omega
  cases c with
  | true =>
    have hs2 := run_signs (x := 96) (N := 18) (k := 3 + m) (s := ⟨#[96, 96, 96, 96, 96, 96, 96, 96, 96, 96, 96, 96, 96, 96, 96, 96, 96, 96]⟩) rfl (v := 3 + (m : Int)) (by omega) (by omega)
    have hs3 := run_signs (x := 96) (N := 18) (k := 2 + m) (s := ⟨#[96, 96, 96, 96, 96, 96, 96, 96, 96, 96, 96, 96, 96, 96, 96, 96, 96, 96]⟩) rfl (v := 2 + (m : Int)) (by omega) (by omega)
    obtain ⟨L, hLl, hL, q1, e1, e2, e3, e4, e5, e6⟩ := ends_facts 96 96 rfl (.inl rfl) j m hj hm ⟨#[96, 96, 96, 96, 96, 96, 96, 96, 96, 96, 96, 96, 96, 96, 96, 96, 96, 96]⟩ rfl
    have z1 : (bs (List.replicate j 32)).size = j := by rw [bs_size, List.length_replicate]
    have z2 : (bs (List.replicate (3 + m) 96)).size = 3 + m := by rw [bs_size, List.length_replicate]
    have z3 := bs_size L
    have z4 : ¬ 9223372036854775807 < L.length + 2 := by omega
    have z5 : ¬ 9223372036854775807 < L.length + 1 := by omega
    have z6 : ¬ 9223372036854775807 < 4 + L.length := by omega
    go_enter Tryd.func6, Tryd.ntmps6
    go_wp2
    go_quiet (fail)
    go_wp2_with fail
    refine (q1 _).mono ?_
    rintro e w1 ⟨rfl, hb1⟩
    replace hb1 := Lib.hid (below_ext_drewN hb1)
    go_wp2
    obtain ⟨w2, hw2⟩ : ∃ w2, w2 = (w1.alloc (.cells #[.int .u8 96, .int .i64 (3 + (m : Int)), .int .i64 (j : Int), .string ⟨#[]⟩] 28)).drew := ⟨_, rfl⟩
    have hb2 : Hid (Below w.heap.size w w2) := Lib.hid (by rw [hw2]; exact ext_trans hb1.out (ext_trans (ext_alloc _ _) (ext_drew _)))
    have f2 : Hid (w2.heap[w1.heap.size]? = some (.cells #[.int .u8 96, .int .i64 (3 + (m : Int)), .int .i64 (j : Int), .string ⟨#[]⟩] 28)) := Lib.hid (by rw [hw2]; exact heap_alloc_new w1 _)
    refine wp_region_can [(true, 0), (true, 1), (true, 2), (true, 3), (true, 4), (true, 5), (true, 6), (true, 7), (true, 8), (true, 9), (true, 10), (true, 11), (true, 12), (true, 13), (true, 14), (true, 15), (true, 16), (true, 17), (true, 18), (false, 19), (true, 20), (true, 21), (true, 22), (true, 23), (true, 24), (false, 25), (true, 26), (true, 27), (true, 28), (true, 29), (false, 30), (true, 31), (true, 32), (true, 33), (true, 34), (true, 35), (false, 36), (true, 37), (true, 38), (true, 39), (true, 40), (true, 41), (true, 42), (true, 43), (true, 44), (true, 45), (false, 46), (true, 47), (true, 48), (true, 49), (true, 50), (true, 51), (true, 52), (false, 53), (true, 54), (true, 55), (true, 56), (false, 57), (true, 58), (true, 59)] (Ext _) (Ext.refl _) (by kernel_rfl) (by kernel_rfl) (by kernel_rfl) (fun _ _ d _ _ h => by cases d <;> exact h) ?_
    rw [← hw2]
    clear hw2
    have r2 : ∀ u, Ext w2 u → u.heap[w1.heap.size]? = some (.cells #[.int .u8 96, .int .i64 (3 + (m : Int)), .int .i64 (j : Int), .string ⟨#[]⟩] 28) := fun u hu => (keep f2.out hu).1
    replace r2 := Lib.hid r2
    repeat (first | refine wpCan_move rfl ?_ | (refine wpCan_cons rfl ?_; intro K hK; go_simp; refine hK _ _ _ ?_; clear hK K))
    refine wpCan_read (.int .i64 (3 + (m : Int))) rfl (by go_simp) (Ext.refl _) (fun u hu => by obtain ⟨k0, k1, k2, k3⟩ := four (r2.out u hu); go_simp) ?_
    repeat (first | refine wpCan_move rfl ?_ | (refine wpCan_cons rfl ?_; intro K hK; go_simp; refine hK _ _ _ ?_; clear hK K))
    refine wpCan_read (.int .i64 (j : Int)) rfl (by go_simp) (Ext.refl _) (fun u hu => by obtain ⟨k0, k1, k2, k3⟩ := four (r2.out u hu); go_simp) ?_
    repeat (first | refine wpCan_move rfl ?_ | (refine wpCan_cons rfl ?_; intro K hK; go_simp; refine hK _ _ _ ?_; clear hK K))
    refine wpCan_read (.agg #[.int .u8 96, .int .i64 (3 + (m : Int)), .int .i64 (j : Int), .string ⟨#[]⟩]) rfl (by go_simp) (Ext.refl _) (fun u hu => by obtain ⟨k0, k1, k2, k3⟩ := four (r2.out u hu); go_simp) ?_
    repeat (first | refine wpCan_move rfl ?_ | (refine wpCan_cons rfl ?_; intro K hK; go_simp; refine hK _ _ _ ?_; clear hK K))
    refine wpCan_cons rfl ?_
    intro K hK
    go_simp
    refine (e1 _).mono ?_
    rintro e w3 ⟨rfl, hb⟩
    refine can_ext hb (hK _ _ _ ?_)
    have hb3 := Lib.hid (ext_trans hb2.out hb)
    have r3 := fun u (hu : Ext w3 u) => r2.out u (ext_trans hb hu)
    replace r3 := Lib.hid r3
    clear hK K hb
    repeat (first | refine wpCan_move rfl ?_ | (refine wpCan_cons rfl ?_; intro K hK; go_simp; refine hK _ _ _ ?_; clear hK K))
    refine wpCan_read (.agg #[.int .u8 96, .int .i64 (3 + (m : Int)), .int .i64 (j : Int), .string ⟨#[]⟩]) rfl (by go_simp) (Ext.refl _) (fun u hu => by obtain ⟨k0, k1, k2, k3⟩ := four (r3.out u hu); go_simp) ?_
    repeat (first | refine wpCan_move rfl ?_ | (refine wpCan_cons rfl ?_; intro K hK; go_simp; refine hK _ _ _ ?_; clear hK K))
    refine wpCan_cons rfl ?_
    intro K hK
    go_simp
    refine (e2 _).mono ?_
    rintro e w4 ⟨rfl, hb⟩
    refine can_ext hb (hK _ _ _ ?_)
    have hb4 := Lib.hid (ext_trans hb3.out hb)
    have r4 := fun u (hu : Ext w4 u) => r3.out u (ext_trans hb hu)
    replace r4 := Lib.hid r4
    clear hK K hb
    repeat (first | refine wpCan_move rfl ?_ | (refine wpCan_cons rfl ?_; intro K hK; go_simp; refine hK _ _ _ ?_; clear hK K))
    refine wpCan_read (.agg #[.int .u8 96, .int .i64 (3 + (m : Int)), .int .i64 (j : Int), .string ⟨#[]⟩]) rfl (by go_simp) (Ext.refl _) (fun u hu => by obtain ⟨k0, k1, k2, k3⟩ := four (r4.out u hu); go_simp) ?_
    repeat (first | refine wpCan_move rfl ?_ | (refine wpCan_cons rfl ?_; intro K hK; go_simp; refine hK _ _ _ ?_; clear hK K))
    refine wpCan_cons rfl ?_
    intro K hK
    go_simp
    refine (e3 _).mono ?_
    rintro e w5 ⟨rfl, hb⟩
    refine can_ext hb (hK _ _ _ ?_)
    have hb5 := Lib.hid (ext_trans hb4.out hb)
    have r5 := fun u (hu : Ext w5 u) => r4.out u (ext_trans hb hu)
    replace r5 := Lib.hid r5
    clear hK K hb
    repeat (first | refine wpCan_move rfl ?_ | (refine wpCan_cons rfl ?_; intro K hK; go_simp; refine hK _ _ _ ?_; clear hK K))
    refine wpCan_read (.agg #[.int .u8 96, .int .i64 (3 + (m : Int)), .int .i64 (j : Int), .string ⟨#[]⟩]) rfl (by go_simp) (Ext.refl _) (fun u hu => by obtain ⟨k0, k1, k2, k3⟩ := four (r5.out u hu); go_simp) ?_
    repeat (first | refine wpCan_move rfl ?_ | (refine wpCan_cons rfl ?_; intro K hK; go_simp; refine hK _ _ _ ?_; clear hK K))
    refine wpCan_cons rfl ?_
    intro K hK
    go_simp
    refine (e4 _).mono ?_
    rintro e w6 ⟨rfl, hb⟩
    refine can_ext hb (hK _ _ _ ?_)
    have hb6 := Lib.hid (ext_trans hb5.out hb)
    have r6 := fun u (hu : Ext w6 u) => r5.out u (ext_trans hb hu)
    replace r6 := Lib.hid r6
    clear hK K hb
    repeat (first | refine wpCan_move rfl ?_ | (refine wpCan_cons rfl ?_; intro K hK; go_simp; refine hK _ _ _ ?_; clear hK K))
    refine wpCan_read (.agg #[.int .u8 96, .int .i64 (3 + (m : Int)), .int .i64 (j : Int), .string ⟨#[]⟩]) rfl (by go_simp) (Ext.refl _) (fun u hu => by obtain ⟨k0, k1, k2, k3⟩ := four (r6.out u hu); go_simp) ?_
    repeat (first | refine wpCan_move rfl ?_ | (refine wpCan_cons rfl ?_; intro K hK; go_simp; refine hK _ _ _ ?_; clear hK K))
    refine wpCan_cons rfl ?_
    intro K hK
    go_simp
    refine (e5 _).mono ?_
    rintro e w7 ⟨rfl, hb⟩
    refine can_ext hb (hK _ _ _ ?_)
    have hb7 := Lib.hid (ext_trans hb6.out hb)
    have r7 := fun u (hu : Ext w7 u) => r6.out u (ext_trans hb hu)
    replace r7 := Lib.hid r7
    clear hK K hb
    repeat (first | refine wpCan_move rfl ?_ | (refine wpCan_cons rfl ?_; intro K hK; go_simp; refine hK _ _ _ ?_; clear hK K))
    refine wpCan_read (.agg #[.int .u8 96, .int .i64 (3 + (m : Int)), .int .i64 (j : Int), .string ⟨#[]⟩]) rfl (by go_simp) (Ext.refl _) (fun u hu => by obtain ⟨k0, k1, k2, k3⟩ := four (r7.out u hu); go_simp) ?_
    repeat (first | refine wpCan_move rfl ?_ | (refine wpCan_cons rfl ?_; intro K hK; go_simp; refine hK _ _ _ ?_; clear hK K))
    refine wpCan_cons rfl ?_
    intro K hK
    go_simp
    refine (e6 _).mono ?_
    rintro e w8 ⟨rfl, hb⟩
    refine can_ext hb (hK _ _ _ ?_)
    have hb8 := Lib.hid (ext_trans hb7.out hb)
    have r8 := fun u (hu : Ext w8 u) => r7.out u (ext_trans hb hu)
    replace r8 := Lib.hid r8
    clear hK K hb
    repeat (first | refine wpCan_move rfl ?_ | (refine wpCan_cons rfl ?_; intro K hK; go_simp; refine hK _ _ _ ?_; clear hK K))
    refine wpCan_cons rfl ?_
    intro K hK
    go_simp
    refine (known_any _).mono ?_
    rintro e w9 ⟨rfl, hb⟩
    refine can_ext hb (hK _ _ _ ?_)
    have hb9 := Lib.hid (ext_trans hb8.out hb)
    clear hK K hb
    repeat (first | refine wpCan_move rfl ?_ | (refine wpCan_cons rfl ?_; intro K hK; go_simp; refine hK _ _ _ ?_; clear hK K))
    refine wpCan_nil ?_
    go_wp2
    go_ret
    exact ⟨rfl, hb9.out⟩
  | false =>
    have hs2 := run_signs (x := 126) (N := 18) (k := 3 + m) (s := ⟨#[126, 126, 126, 126, 126, 126, 126, 126, 126, 126, 126, 126, 126, 126, 126, 126, 126, 126]⟩) rfl (v := 3 + (m : Int)) (by omega) (by omega)
    have hs3 := run_signs (x := 126) (N := 18) (k := 2 + m) (s := ⟨#[126, 126, 126, 126, 126, 126, 126, 126, 126, 126, 126, 126, 126, 126, 126, 126, 126, 126]⟩) rfl (v := 2 + (m : Int)) (by omega) (by omega)
    obtain ⟨L, hLl, hL, q1, e1, e2, e3, e4, e5, e6⟩ := ends_facts 126 126 rfl (.inr rfl) j m hj hm ⟨#[126, 126, 126, 126, 126, 126, 126, 126, 126, 126, 126, 126, 126, 126, 126, 126, 126, 126]⟩ rfl
    have z1 : (bs (List.replicate j 32)).size = j := by rw [bs_size, List.length_replicate]
    have z2 : (bs (List.replicate (3 + m) 126)).size = 3 + m := by rw [bs_size, List.length_replicate]
    have z3 := bs_size L
    have z4 : ¬ 9223372036854775807 < L.length + 2 := by omega
    have z5 : ¬ 9223372036854775807 < L.length + 1 := by omega
    have z6 : ¬ 9223372036854775807 < 4 + L.length := by omega
    go_enter Tryd.func6, Tryd.ntmps6
    go_wp2
    go_quiet (fail)
    go_wp2_with fail
    refine (q1 _).mono ?_
    rintro e w1 ⟨rfl, hb1⟩
    replace hb1 := Lib.hid (below_ext_drewN hb1)
    go_wp2
    obtain ⟨w2, hw2⟩ : ∃ w2, w2 = (w1.alloc (.cells #[.int .u8 126, .int .i64 (3 + (m : Int)), .int .i64 (j : Int), .string ⟨#[]⟩] 28)).drew := ⟨_, rfl⟩
    have hb2 : Hid (Below w.heap.size w w2) := Lib.hid (by rw [hw2]; exact ext_trans hb1.out (ext_trans (ext_alloc _ _) (ext_drew _)))
    have f2 : Hid (w2.heap[w1.heap.size]? = some (.cells #[.int .u8 126, .int .i64 (3 + (m : Int)), .int .i64 (j : Int), .string ⟨#[]⟩] 28)) := Lib.hid (by rw [hw2]; exact heap_alloc_new w1 _)
    refine wp_region_can [(true, 0), (true, 1), (true, 2), (true, 3), (true, 4), (true, 5), (true, 6), (true, 7), (true, 8), (true, 9), (true, 10), (true, 11), (true, 12), (true, 13), (true, 14), (true, 15), (true, 16), (true, 17), (true, 18), (false, 19), (true, 20), (true, 21), (true, 22), (true, 23), (true, 24), (false, 25), (true, 26), (true, 27), (true, 28), (true, 29), (false, 30), (true, 31), (true, 32), (true, 33), (true, 34), (true, 35), (false, 36), (true, 37), (true, 38), (true, 39), (true, 40), (true, 41), (true, 42), (true, 43), (true, 44), (true, 45), (false, 46), (true, 47), (true, 48), (true, 49), (true, 50), (true, 51), (true, 52), (false, 53), (true, 54), (true, 55), (true, 56), (false, 57), (true, 58), (true, 59)] (Ext _) (Ext.refl _) (by kernel_rfl) (by kernel_rfl) (by kernel_rfl) (fun _ _ d _ _ h => by cases d <;> exact h) ?_
    rw [← hw2]
    clear hw2
    have r2 : ∀ u, Ext w2 u → u.heap[w1.heap.size]? = some (.cells #[.int .u8 126, .int .i64 (3 + (m : Int)), .int .i64 (j : Int), .string ⟨#[]⟩] 28) := fun u hu => (keep f2.out hu).1
    replace r2 := Lib.hid r2
    repeat (first | refine wpCan_move rfl ?_ | (refine wpCan_cons rfl ?_; intro K hK; go_simp; refine hK _ _ _ ?_; clear hK K))
    refine wpCan_read (.int .i64 (3 + (m : Int))) rfl (by go_simp) (Ext.refl _) (fun u hu => by obtain ⟨k0, k1, k2, k3⟩ := four (r2.out u hu); go_simp) ?_
    repeat (first | refine wpCan_move rfl ?_ | (refine wpCan_cons rfl ?_; intro K hK; go_simp; refine hK _ _ _ ?_; clear hK K))
    refine wpCan_read (.int .i64 (j : Int)) rfl (by go_simp) (Ext.refl _) (fun u hu => by obtain ⟨k0, k1, k2, k3⟩ := four (r2.out u hu); go_simp) ?_
    repeat (first | refine wpCan_move rfl ?_ | (refine wpCan_cons rfl ?_; intro K hK; go_simp; refine hK _ _ _ ?_; clear hK K))
    refine wpCan_read (.agg #[.int .u8 126, .int .i64 (3 + (m : Int)), .int .i64 (j : Int), .string ⟨#[]⟩]) rfl (by go_simp) (Ext.refl _) (fun u hu => by obtain ⟨k0, k1, k2, k3⟩ := four (r2.out u hu); go_simp) ?_
    repeat (first | refine wpCan_move rfl ?_ | (refine wpCan_cons rfl ?_; intro K hK; go_simp; refine hK _ _ _ ?_; clear hK K))
    refine wpCan_cons rfl ?_
    intro K hK
    go_simp
    refine (e1 _).mono ?_
    rintro e w3 ⟨rfl, hb⟩
    refine can_ext hb (hK _ _ _ ?_)
    have hb3 := Lib.hid (ext_trans hb2.out hb)
    have r3 := fun u (hu : Ext w3 u) => r2.out u (ext_trans hb hu)
    replace r3 := Lib.hid r3
    clear hK K hb
    repeat (first | refine wpCan_move rfl ?_ | (refine wpCan_cons rfl ?_; intro K hK; go_simp; refine hK _ _ _ ?_; clear hK K))
    refine wpCan_read (.agg #[.int .u8 126, .int .i64 (3 + (m : Int)), .int .i64 (j : Int), .string ⟨#[]⟩]) rfl (by go_simp) (Ext.refl _) (fun u hu => by obtain ⟨k0, k1, k2, k3⟩ := four (r3.out u hu); go_simp) ?_
    repeat (first | refine wpCan_move rfl ?_ | (refine wpCan_cons rfl ?_; intro K hK; go_simp; refine hK _ _ _ ?_; clear hK K))
    refine wpCan_cons rfl ?_
    intro K hK
    go_simp
    refine (e2 _).mono ?_
    rintro e w4 ⟨rfl, hb⟩
    refine can_ext hb (hK _ _ _ ?_)
    have hb4 := Lib.hid (ext_trans hb3.out hb)
    have r4 := fun u (hu : Ext w4 u) => r3.out u (ext_trans hb hu)
    replace r4 := Lib.hid r4
    clear hK K hb
    repeat (first | refine wpCan_move rfl ?_ | (refine wpCan_cons rfl ?_; intro K hK; go_simp; refine hK _ _ _ ?_; clear hK K))
    refine wpCan_read (.agg #[.int .u8 126, .int .i64 (3 + (m : Int)), .int .i64 (j : Int), .string ⟨#[]⟩]) rfl (by go_simp) (Ext.refl _) (fun u hu => by obtain ⟨k0, k1, k2, k3⟩ := four (r4.out u hu); go_simp) ?_
    repeat (first | refine wpCan_move rfl ?_ | (refine wpCan_cons rfl ?_; intro K hK; go_simp; refine hK _ _ _ ?_; clear hK K))
    refine wpCan_cons rfl ?_
    intro K hK
    go_simp
    refine (e3 _).mono ?_
    rintro e w5 ⟨rfl, hb⟩
    refine can_ext hb (hK _ _ _ ?_)
    have hb5 := Lib.hid (ext_trans hb4.out hb)
    have r5 := fun u (hu : Ext w5 u) => r4.out u (ext_trans hb hu)
    replace r5 := Lib.hid r5
    clear hK K hb
    repeat (first | refine wpCan_move rfl ?_ | (refine wpCan_cons rfl ?_; intro K hK; go_simp; refine hK _ _ _ ?_; clear hK K))
    refine wpCan_read (.agg #[.int .u8 126, .int .i64 (3 + (m : Int)), .int .i64 (j : Int), .string ⟨#[]⟩]) rfl (by go_simp) (Ext.refl _) (fun u hu => by obtain ⟨k0, k1, k2, k3⟩ := four (r5.out u hu); go_simp) ?_
    repeat (first | refine wpCan_move rfl ?_ | (refine wpCan_cons rfl ?_; intro K hK; go_simp; refine hK _ _ _ ?_; clear hK K))
    refine wpCan_cons rfl ?_
    intro K hK
    go_simp
    refine (e4 _).mono ?_
    rintro e w6 ⟨rfl, hb⟩
    refine can_ext hb (hK _ _ _ ?_)
    have hb6 := Lib.hid (ext_trans hb5.out hb)
    have r6 := fun u (hu : Ext w6 u) => r5.out u (ext_trans hb hu)
    replace r6 := Lib.hid r6
    clear hK K hb
    repeat (first | refine wpCan_move rfl ?_ | (refine wpCan_cons rfl ?_; intro K hK; go_simp; refine hK _ _ _ ?_; clear hK K))
    refine wpCan_read (.agg #[.int .u8 126, .int .i64 (3 + (m : Int)), .int .i64 (j : Int), .string ⟨#[]⟩]) rfl (by go_simp) (Ext.refl _) (fun u hu => by obtain ⟨k0, k1, k2, k3⟩ := four (r6.out u hu); go_simp) ?_
    repeat (first | refine wpCan_move rfl ?_ | (refine wpCan_cons rfl ?_; intro K hK; go_simp; refine hK _ _ _ ?_; clear hK K))
    refine wpCan_cons rfl ?_
    intro K hK
    go_simp
    refine (e5 _).mono ?_
    rintro e w7 ⟨rfl, hb⟩
    refine can_ext hb (hK _ _ _ ?_)
    have hb7 := Lib.hid (ext_trans hb6.out hb)
    have r7 := fun u (hu : Ext w7 u) => r6.out u (ext_trans hb hu)
    replace r7 := Lib.hid r7
    clear hK K hb
    repeat (first | refine wpCan_move rfl ?_ | (refine wpCan_cons rfl ?_; intro K hK; go_simp; refine hK _ _ _ ?_; clear hK K))
    refine wpCan_read (.agg #[.int .u8 126, .int .i64 (3 + (m : Int)), .int .i64 (j : Int), .string ⟨#[]⟩]) rfl (by go_simp) (Ext.refl _) (fun u hu => by obtain ⟨k0, k1, k2, k3⟩ := four (r7.out u hu); go_simp) ?_
    repeat (first | refine wpCan_move rfl ?_ | (refine wpCan_cons rfl ?_; intro K hK; go_simp; refine hK _ _ _ ?_; clear hK K))
    refine wpCan_cons rfl ?_
    intro K hK
    go_simp
    refine (e6 _).mono ?_
    rintro e w8 ⟨rfl, hb⟩
    refine can_ext hb (hK _ _ _ ?_)
    have hb8 := Lib.hid (ext_trans hb7.out hb)
    have r8 := fun u (hu : Ext w8 u) => r7.out u (ext_trans hb hu)
    replace r8 := Lib.hid r8
    clear hK K hb
    repeat (first | refine wpCan_move rfl ?_ | (refine wpCan_cons rfl ?_; intro K hK; go_simp; refine hK _ _ _ ?_; clear hK K))
    refine wpCan_cons rfl ?_
    intro K hK
    go_simp
    refine (known_any _).mono ?_
    rintro e w9 ⟨rfl, hb⟩
    refine can_ext hb (hK _ _ _ ?_)
    have hb9 := Lib.hid (ext_trans hb8.out hb)
    clear hK K hb
    repeat (first | refine wpCan_move rfl ?_ | (refine wpCan_cons rfl ?_; intro K hK; go_simp; refine hK _ _ _ ?_; clear hK K))
    refine wpCan_nil ?_
    go_wp2
    go_ret
    exact ⟨rfl, hb9.out⟩
end Go.Proofs.YtcdpecpjhoejnaaDoor
