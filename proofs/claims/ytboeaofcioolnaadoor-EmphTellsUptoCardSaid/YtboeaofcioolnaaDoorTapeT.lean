/- A tape of numbers, and the words made of it. -/
import Derived.Test.YtboeaofcioolnaaDoorMem
import Derived.Test.YtboeaofcioolnaaDoorCanon
import Derived.Test.YtboeaofcioolnaaDoorHeapMap
import Derived.Laws.ResultCell
import Derived.Deep.QuietTactic
import Derived.BigQuiet
import Derived.Test.YtboeaofcioolnaaDoorByt
import Derived.Test.YtboeaofcioolnaaDoorOpenI
section
namespace Go.Proofs.YtboeaofcioolnaaDoor
open Go.RowKit
attribute [local go_sem] canOp readsAs readUpon

theorem ret_int {a b : Int} (h : a = b) : Ending.returned (.int .i64 a) = .returned (.int .i64 b) := by rw [h]
theorem tmodW (n : Int) : -1073741824 ≤ n.tmod 1073741825 ∧ n.tmod 1073741825 ≤ 1073741824 := by
  rcases Int.le_total 0 n with h | h
  · rw [Int.tmod_eq_emod_of_nonneg h]; omega
  · rw [show n = -(-n) from by omega, Int.neg_tmod, Int.tmod_eq_emod_of_nonneg (by omega)]; omega

set_option maxHeartbeats 1000000 in
theorem within_any (x : Int) (w : World) :
    Calls Tryd.prog 33 #[.int .i64 x, .int .i64 0, .int .i64 1073741824] w fun e w' => (∃ r : Nat, e = .returned (.int .i64 (r : Int)) ∧ r ≤ 1073741824) ∧ w = w' := by
  have hm := tmodW x
  obtain ⟨q, hq⟩ : ∃ q, x.tmod 1073741825 = q := ⟨_, rfl⟩
  rw [hq] at hm
  go_enter Tryd.func33, Tryd.ntmps33
  rcases Int.lt_or_le x 0 with h0 | h0
  · rcases Int.lt_or_le q 0 with h2 | h2
    · go_wp2
      go_ret
      exact ⟨⟨(q + 1073741825).toNat, ret_int (by omega), by omega⟩, rfl⟩
    · go_wp2
      go_ret
      exact ⟨⟨q.toNat, ret_int (by omega), by omega⟩, rfl⟩
  · rcases Int.lt_or_le 1073741824 x with h1 | h1
    · rcases Int.lt_or_le q 0 with h2 | h2
      · go_wp2
        go_ret
        exact ⟨⟨(q + 1073741825).toNat, ret_int (by omega), by omega⟩, rfl⟩
      · go_wp2
        go_ret
        exact ⟨⟨q.toNat, ret_int (by omega), by omega⟩, rfl⟩
    · go_wp2
      go_ret
      exact ⟨⟨x.toNat, ret_int (by omega), by omega⟩, rfl⟩

/-- a tape in a block of its own; its numbers lie in older blocks -/
def TapeAt (w : World) (g : Nat) : Prop := ∃ (A : Option Addr) (n c k : Nat) (xs : List Int), w.heap[g]? = some (.cells #[.slice A n c, .int .i64 (k : Int)] 34 (0, 0)) ∧ k ≤ n ∧ n ≤ c ∧ n ≤ 9223372036854775807 ∧ Row w g 1 A n (xs.map fun x => .int .i64 x)
/-- all is as it was, a tape's block aside -/
def Aside (g : Nat) (w w' : World) : Prop := Below g w w' ∧ w.heap.size ≤ w'.heap.size ∧ ∀ k, k < w.heap.size → k ≠ g → w'.heap[k]? = w.heap[k]?
theorem Aside.refl (g : Nat) (w : World) : Aside g w w := ⟨Below.refl _ _, Nat.le_refl _, fun _ _ _ => rfl⟩
theorem Aside.trans {g : Nat} {a b c : World} (h : Aside g a b) (k : Aside g b c) : Aside g a c :=
  ⟨h.1.trans k.1, Nat.le_trans h.2.1 k.2.1, fun i hi hg => (k.2.2 i (by have := h.2.1; omega) hg).trans (h.2.2 i hi hg)⟩
theorem Aside.of_ext {g : Nat} {a b : World} (h : Below a.heap.size a b) (hg : g < a.heap.size) : Aside g a b :=
  ⟨h.mono (by omega), h.size, fun i hi _ => h.block i hi⟩
theorem Aside.drewN {g : Nat} {a b : World} (h : Aside g a b) (n : Nat) : Aside g a (b.drewN n) := ⟨below_drewN h.1 n, h.2.1, h.2.2⟩
theorem own_aside {g : Nat} {w w1 : World} {base : Nat} {e : TypeId} {size n : Nat} {v : Value} {xs : List Value} (h : w.ownsRow base e size v n xs) (hb : Aside g w w1) (hg : g < base) : w1.ownsRow base e size v n xs := by
  refine ⟨h.1, ?_⟩
  rcases h.2 with hn | ⟨g', cap, cur, rfl, hbg, hgg, rest⟩
  · exact .inl hn
  · exact .inr ⟨g', cap, cur, rfl, hbg, (hb.2.2 g' (Array.getElem?_eq_some_iff.1 hgg).1 (by omega)).trans hgg, rest⟩
theorem Aside.set {g : Nat} {a b : World} (h : Aside g a b) (j : Nat) (v : Value) : Aside g a (b.setCell ⟨g, j, none⟩ v) :=
  ⟨h.1.setCell (p := ⟨g, j, none⟩) (Nat.le_refl _) v, by simpa [World.setCell] using h.2.1, fun k hk hg => (Below.heap_setCell _ _ _ _ hg).trans (h.2.2 k hk hg)⟩
theorem TapeAt.lt {w : World} {g : Nat} (h : TapeAt w g) : g < w.heap.size := by
  obtain ⟨A, n, c, k, xs, h1, _⟩ := h
  exact (Array.getElem?_eq_some_iff.1 h1).1
theorem Row.upto {w w' : World} {B size n : Nat} {A : Option Addr} {xs : List Value} (h : Row w B size A n xs) (hb : Below B w w') : Row w' B size A n xs := h.below hb
theorem TapeAt.ext {w w' : World} {g : Nat} (h : TapeAt w g) (hb : Below w.heap.size w w') : TapeAt w' g := by
  have hg := h.lt
  obtain ⟨A, n, c, k, xs, h1, h2, h3, h4, h5⟩ := h
  exact ⟨A, n, c, k, xs, (hb.block g hg).trans h1, h2, h3, h4, h5.upto (hb.mono (by omega))⟩

set_option maxHeartbeats 2000000 in
set_option maxRecDepth 100000 in
theorem next_any (w : World) (g : Nat) (h : TapeAt w g) (n : Nat) (hn : n ≤ 1000000) :
    Calls Tryd.prog 18 #[.pointer (some ⟨g, 0, none⟩), .int .i64 (n : Int)] w fun e w' => ∃ r : Nat, e = .returned (.int .i64 (r : Int)) ∧ (r < n ∨ r = 0) ∧ TapeAt w' g ∧ Aside g w w' := by
  have hT := Lib.hid h
  obtain ⟨A, m, c, k, xs, h1, h2, h3, h4, h5⟩ := h
  have c0 := cell_of h1 (j := 0) rfl
  have c1 := cell_of h1 (j := 1) rfl
  have cf := blk_free h1
  have hglt : g < w.heap.size := (Array.getElem?_eq_some_iff.1 h1).1
  rcases Nat.lt_or_ge k m with hk | hk
  · have hki : (k : Int) < (m : Int) := by omega
    rcases Nat.lt_or_ge n 1 with hn1 | hn1
    · have hni : (n : Int) < 1 := by omega
      go_enter Tryd.func18, Tryd.ntmps18
      go_wp2_with fail
      go_quiet (fail)
      go_wp2_with fail
      go_ret
      exact ⟨0, rfl, .inr rfl, hT.out, (Aside.refl g w).drewN _⟩
    · have hni : (1 : Int) ≤ (n : Int) := by omega
      obtain ⟨b, o, rfl, hbB, hr⟩ := h5.2 (by omega)
      have hxl : xs.length = m := by have := h5.1; simpa using this
      obtain ⟨x, hx⟩ : ∃ x, xs[k]? = some x := ⟨_, List.getElem?_eq_getElem (by omega)⟩
      have hcx := hr k (.int .i64 x) (by rw [List.getElem?_map, hx]; rfl)
      have hn0 : (0 : Int) ≤ (n : Int) := by omega
      replace h1 := Lib.hid h1
      replace h5 := Lib.hid h5
      clear hr hx
      go_enter Tryd.func18, Tryd.ntmps18
      go_wp2_with fail
      go_quiet (fail)
      go_wp2_with fail
      have hq1 : ((w.drewN nq).setCell ⟨g, 1, none⟩ (.int .i64 ((k : Int) + 1))).drew.heap[g]? = some (.cells #[.slice (some ⟨b, o, none⟩) m c, .int .i64 (((k + 1 : Nat) : Int))] 34 (0, 0)) := heap_setCell_same _ g 1 _ _ (.int .i64 ((k : Int) + 1)) h1.out
      have hAs : Aside g w ((w.drewN nq).setCell ⟨g, 1, none⟩ (.int .i64 ((k : Int) + 1))).drew := ((Aside.refl g w).drewN nq).set 1 _ |>.drewN 1
      have hcx2 : ((w.drewN nq).setCell ⟨g, 1, none⟩ (.int .i64 ((k : Int) + 1))).drew.cell? ⟨b, o + k, none⟩ = some (.int .i64 x) := (hAs.1.cell (p := ⟨b, o + k, none⟩) hbB).trans hcx
      have hT2 : TapeAt ((w.drewN nq).setCell ⟨g, 1, none⟩ (.int .i64 ((k : Int) + 1))).drew g := ⟨_, m, c, k + 1, xs, hq1, by omega, h3, h4, h5.out.below hAs.1⟩
      have hS0 : (((w.drewN nq).setCell ⟨g, 1, none⟩ (.int .i64 ((k : Int) + 1))).drew.cell? ⟨g, 0, none⟩ = some (.slice (some ⟨b, o, none⟩) m c) ∧ ((w.drewN nq).setCell ⟨g, 1, none⟩ (.int .i64 ((k : Int) + 1))).drew.cell? ⟨g, 1, none⟩ = some (.int .i64 ((k : Int) + 1)) ∧ ((w.drewN nq).setCell ⟨g, 1, none⟩ (.int .i64 ((k : Int) + 1))).drew.cell? ⟨b, o + k, none⟩ = some (.int .i64 x)) := ⟨cell_of hq1 (j := 0) rfl, cell_of hq1 (j := 1) rfl, hcx2⟩
      have hwk : IntKind.i64.wrap (k : Int) = (k : Int) := by rw [IntKind.wrap_i64]; omega
      have hkm : ¬ ((m : Int) ≤ (k : Int)) := by omega
      replace hT2 := Lib.hid hT2
      replace hAs := Lib.hid hAs
      clear hq1 hcx2 c0 c1 cf hcx
      refine wp_region_can [(true, 0), (true, 1), (true, 2), (true, 3), (true, 4), (true, 5), (true, 6), (true, 7), (true, 8), (true, 9), (true, 10), (true, 12), (false, 11), (true, 13), (true, 14)] (fun u => u.cell? ⟨g, 0, none⟩ = some (.slice (some ⟨b, o, none⟩) m c) ∧ u.cell? ⟨g, 1, none⟩ = some (.int .i64 ((k : Int) + 1)) ∧ u.cell? ⟨b, o + k, none⟩ = some (.int .i64 x)) hS0 (by kernel_rfl) (by kernel_rfl) (by kernel_rfl) (fun _ _ d _ _ h => by cases d <;> exact h) ?_
      generalize ((w.drewN nq).setCell ⟨g, 1, none⟩ (.int .i64 ((k : Int) + 1))).drew = w3 at hT2 hAs hS0 ⊢
      repeat (first | refine wpCan_move rfl ?_ | (refine wpCan_cons rfl ?_; intro K hK; go_simp; refine hK _ _ _ ?_; clear hK K))
      refine wpCan_read (.slice (some ⟨b, o, none⟩) m c) rfl rfl hS0 (fun u hu => by obtain ⟨k0, k1, k2⟩ := hu; go_simp) ?_
      repeat (first | refine wpCan_move rfl ?_ | (refine wpCan_cons rfl ?_; intro K hK; go_simp; refine hK _ _ _ ?_; clear hK K))
      refine wpCan_read (.int .i64 ((k : Int) + 1)) rfl rfl hS0 (fun u hu => by obtain ⟨k0, k1, k2⟩ := hu; go_simp) ?_
      repeat (first | refine wpCan_move rfl ?_ | (refine wpCan_cons rfl ?_; intro K hK; go_simp; refine hK _ _ _ ?_; clear hK K))
      refine wpCan_read (.int .i64 x) rfl rfl hS0 (fun u hu => by obtain ⟨k0, k1, k2⟩ := hu; go_simp) ?_
      repeat (first | refine wpCan_move rfl ?_ | (refine wpCan_cons rfl ?_; intro K hK; go_simp; refine hK _ _ _ ?_; clear hK K))
      refine wpCan_cons rfl ?_
      intro K hK
      go_simp
      refine (within_any x w3).mono ?_
      rintro e w4 ⟨⟨r, rfl, hr9⟩, rfl⟩
      refine can_same hS0 (hK _ _ _ ?_)
      clear hK K
      obtain ⟨r2, hr2, hr3⟩ : ∃ r2 : Nat, (r : Int).tmod (n : Int) = (r2 : Int) ∧ r2 < n := ⟨r % n, by rw [Int.tmod_eq_emod_of_nonneg (by omega)]; omega, Nat.mod_lt _ (by omega)⟩
      have hnz : ¬ (n = 0) := by omega
      repeat (first | refine wpCan_move rfl ?_ | (refine wpCan_cons rfl ?_; intro K hK; go_simp; refine hK _ _ _ ?_; clear hK K))
      refine wpCan_nil ?_
      go_wp2_with fail
      go_ret
      exact ⟨r2, rfl, .inl hr3, hT2.out, hAs.out⟩
  · obtain rfl : k = m := by omega
    go_enter Tryd.func18, Tryd.ntmps18
    go_wp2_with fail
    go_quiet (fail)
    go_wp2_with fail
    go_ret
    exact ⟨0, rfl, .inr rfl, hT.out, (Aside.refl g w).drewN _⟩
end Go.Proofs.YtboeaofcioolnaaDoor
end

section
namespace Go.Proofs.YtboeaofcioolnaaDoor
open Go.RowKit
attribute [local go_sem] canOp readsAs readUpon

def shortV (n : Nat) : Value → Bool
  | .string b => decide (b.size ≤ n)
  | _ => false
theorem shortV_spec {n : Nat} {v : Value} (h : shortV n v = true) : ∃ t, v = .string (bs t) ∧ t.length ≤ n := by
  cases v with
  | string b =>
    refine ⟨b.data.toList, rfl, ?_⟩
    have : b.size ≤ n := of_decide_eq_true h
    simpa using this
  | _ => cases h
theorem lit_short {w : World} {q n : Nat} {l : List Value} {t : TypeId} {fr : Nat × Nat} (h : w.heap[q]? = some (.cells ⟨l⟩ t fr)) (ha : l.all (shortV n) = true) {j : Nat} (hj : j < l.length) : ∃ s, w.cell? ⟨q, j, none⟩ = some (.string (bs s)) ∧ s.length ≤ n := by
  obtain ⟨s, h1, h2⟩ := shortV_spec (List.all_eq_true.1 ha l[j] (List.getElem_mem hj))
  exact ⟨s, cell_of h (by rw [List.getElem?_eq_getElem hj, h1]), h2⟩
theorem next_of (w : World) (g : Nat) (h : TapeAt w g) (n : Nat) (hn : n ≤ 1000000) (N : Int) (hN : N = (n : Int)) :
    Calls Tryd.prog 18 #[.pointer (some ⟨g, 0, none⟩), .int .i64 N] w fun e w' => ∃ r : Nat, e = .returned (.int .i64 (r : Int)) ∧ (r < n ∨ r = 0) ∧ TapeAt w' g ∧ Aside g w w' := by
  subst hN
  exact next_any w g h n hn
/-- a literal row of texts, one of which is taken by the tape's next number -/
theorem next_lit (w : World) (g : Nat) (h : TapeAt w g) (l : List Value) (t : TypeId) (m n : Nat) (hl : l.length = n) (hn0 : 0 < n) (hn : n ≤ 1000000) (ha : l.all (shortV m) = true) (N : Int) (hN : N = (n : Int)) :
    Calls Tryd.prog 18 #[.pointer (some ⟨g, 0, none⟩), .int .i64 N] (w.alloc (.cells ⟨l⟩ t)) fun e w' => ∃ (r : Nat) (s : List UInt8), e = .returned (.int .i64 (r : Int)) ∧ r < n ∧ w'.cell? ⟨w.heap.size, r, none⟩ = some (.string (bs s)) ∧ s.length ≤ m ∧ TapeAt w' g ∧ Aside g w w' := by
  refine (next_of _ g (h.ext (ext_alloc w _)) n hn N hN).mono ?_
  rintro e w' ⟨r, rfl, hr, hT, hA⟩
  have hg := h.lt
  have hrn : r < n := by omega
  obtain ⟨s, h1, h2⟩ := lit_short (heap_alloc_new w (.cells ⟨l⟩ t)) ha (j := r) (by omega)
  exact ⟨r, s, rfl, hrn, by rw [World.cell?_of_block (hA.2.2 w.heap.size (by simp) (by show w.heap.size ≠ g; omega))]; exact h1, h2, hT, (Aside.of_ext (ext_alloc w _) hg).trans hA⟩

set_option maxHeartbeats 2000000 in
set_option maxRecDepth 100000 in
theorem word_any (w : World) (g : Nat) (h : TapeAt w g) :
    Calls Tryd.prog 19 #[.pointer (some ⟨g, 0, none⟩)] w fun e w' => ∃ s : List UInt8, e = .returned (.string (bs s)) ∧ s.length ≤ 10 ∧ TapeAt w' g ∧ Aside g w w' := by
  have hN := fun l t hl ha => next_lit w g h l t 10 32 hl (by omega) (by omega) ha 32 rfl
  replace hN := Lib.hid hN
  go_enter Tryd.func19, Tryd.ntmps19
  go_wp2_with fail
  refine (hN.out _ _ (by kernel_rfl) (by kernel_rfl)).mono ?_
  rintro e w1 ⟨r, s, rfl, hr, hc, hs, hT, hA⟩
  have hr0 : (0 : Int) ≤ (r : Int) := by omega
  have hr1 : (r : Int) < 32 := by omega
  replace hT := Lib.hid hT
  replace hA := Lib.hid hA
  go_wp2_with fail
  go_ret
  exact ⟨s, rfl, hs, hT.out, hA.out⟩

end Go.Proofs.YtboeaofcioolnaaDoor
end

section
namespace Go.Proofs.YtboeaofcioolnaaDoor
open Go.RowKit
attribute [local go_sem] canOp readsAs readUpon

theorem tapeNew (w : World) (xs : List Int) (A : Option Addr) (c : Nat) (h : Row w w.heap.size 1 A xs.length (icells xs)) (hc : xs.length ≤ c) (hl : xs.length ≤ 9223372036854775807) :
    TapeAt (w.alloc (.cells #[.slice A xs.length c, .int .i64 0] 34)) w.heap.size :=
  ⟨A, xs.length, c, 0, xs, heap_alloc_new w _, by omega, hc, hl, h.below (ext_alloc w _)⟩

set_option maxHeartbeats 4000000 in
set_option maxRecDepth 100000 in
theorem words_any (w : World) (g : Nat) (h : TapeAt w g) (most : Nat) (hm : most ≤ 1000) (M : Int) (hM : M = (most : Int)) :
    Calls Tryd.prog 12 #[.pointer (some ⟨g, 0, none⟩), .int .i64 M] w fun e w' => ∃ s : List UInt8, e = .returned (.string (bs s)) ∧ s.length ≤ most * 20 ∧ TapeAt w' g ∧ Aside g w w' := by
  subst hM
  go_enter Tryd.func12, Tryd.ntmps12
  go_wp2_with fail
  refine (next_of w g h (most + 1) (by omega) ((most : Int) + 1) (by omega)).mono ?_
  rintro e w2 ⟨n, rfl, hn, hT2, hA2⟩
  replace hT2 := Lib.hid hT2
  replace hA2 := Lib.hid hA2
  have hnm : n ≤ most := by omega
  clear hn
  go_wp2_with fail
  go_loopw [5, 6] (fun v nv wr => ∃ (k : Nat) (l : List UInt8), nv = .int .i64 (k : Int) ∧ k ≤ most ∧ l.length + k * 20 ≤ most * 20 ∧ v = .string (bs l) ∧ Hid (TapeAt wr g) ∧ Hid (Aside g w wr)) (fun _ nv _ => (intOf nv).toNat)
  case atStart => exact ⟨n, [], rfl, hnm, by simp; omega, rfl, hT2, hA2⟩
  case round =>
    obtain ⟨k, l, rfl, hk, hl, rfl, hT, hA⟩ := hrel
    have hls := bs_size l
    rcases Nat.eq_zero_or_pos k with rfl | hkp
    · go_wp2_with fail
      go_ret
      exact ⟨l, rfl, by omega, hT.out, hA.out⟩
    · have hk0 : (0 : Int) < (k : Int) := by omega
      go_wp2_with fail
      refine (word_any wr g hT.out).mono ?_
      rintro e w3 ⟨s1, rfl, hs1, hT3, hA3⟩
      have hN := fun l t hl ha => next_lit w3 g hT3 l t 10 4 hl (by omega) (by omega) ha 4 rfl
      replace hN := Lib.hid hN
      replace hA3 := Lib.hid (hA.out.trans hA3)
      clear hT3
      go_wp2_with fail
      refine (hN.out _ _ (by kernel_rfl) (by kernel_rfl)).mono ?_
      rintro e w4 ⟨r, s2, rfl, hr, hc, hs2, hT4, hA4⟩
      replace hA4 := Lib.hid (hA3.out.trans hA4)
      replace hT4 := Lib.hid hT4
      clear hN hA3
      have c1 := bs_append s1 s2
      have c2 := bs_append l (s1 ++ s2)
      have z1 := bs_size s1
      have z2 := bs_size s2
      have z3 := bs_size (s1 ++ s2)
      have z4 : (s1 ++ s2).length = s1.length + s2.length := List.length_append
      have hr0 : (0 : Int) ≤ (r : Int) := by omega
      have hr1 : (r : Int) < 4 := by omega
      go_wp2_with fail
      go_roundw
      case rel => exact ⟨k - 1, l ++ (s1 ++ s2), congrArg (Value.int .i64) (by omega), by omega, by simp; omega, rfl, hT4, hA4⟩
      case measure => simp [intOf]; omega
end Go.Proofs.YtboeaofcioolnaaDoor
end
