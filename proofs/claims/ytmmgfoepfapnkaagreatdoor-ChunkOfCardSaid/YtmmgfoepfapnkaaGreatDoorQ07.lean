/- Trees of blocks, as they lie in memory. No function of the program is spoken of here. A tape of numbers, read one by one: what it gives, and what it leaves as it was. A tape of numbers: words, ends, lines of whatever kind: that they come, and how long they are. A tape of numbers: a line of whatever kind. A tape of numbers: a document of lines of whatever kind. -/
import Derived.Test.YtmmgfoepfapnkaaGreatDoorQ02
import Derived.Test.YtmmgfoepfapnkaaGreatDoorQ03
import Derived.Laws.ResultCell
import Derived.Deep.QuietTactic
import Derived.BigQuiet
import Derived.Test.YtmmgfoepfapnkaaGreatDoorQ06
namespace Go.Proofs.YtmmgfoepfapnkaaGreatDoor
open Go.RowKit

/-- one part more beside the parser's -/
def shiftE (a : Part) (E : Nat → Option Part) : Nat → Option Part
  | 0 => some a
  | i + 1 => E i
section
variable {w : World} {B : Nat}
/-- a row's cell -/
theorem own_cell {e : TypeId} {size n g c : Nat} {xs : List Value} (h : w.ownsRow B e size (.slice (some ⟨g, 0, none⟩) n c) n xs) {j : Nat} {u : Value} (hj : xs[j]? = some u) : w.cell? ⟨g, j, none⟩ = some u := by
  have := World.ownsRow.cells h (g := g) rfl j u hj
  rwa [show (⟨g, 0, none⟩ : Addr).add j = ⟨g, j, none⟩ from by unfold Addr.add; split <;> simp_all] at this
/-- one result, a struct in a variable -/
theorem results_cell1 {fn : Func} {p : Tmp} {ty : TypeId} (h : fn.results = #[.cell p ty]) (tmps : Array Value) (P : Program) (w : World) :
    (results fn tmps).run P w = ((asAddr (tmps.getD p undef)).run P w).andThen fun a w₁ => (loadVar ty a).run P w₁ := by
  simp only [results, h]
  simp [Sem.run_bind, Result.andThen]
end
end Go.Proofs.YtmmgfoepfapnkaaGreatDoor

namespace Go.Proofs.YtmmgfoepfapnkaaGreatDoor
open Go.RowKit
attribute [local go_sem] canOp readsAs readUpon

theorem ret_int {a b : Int} (h : a = b) : Ending.returned (.int .i64 a) = .returned (.int .i64 b) := by rw [h]
theorem tmodW (n : Int) : -1073741824 ≤ n.tmod 1073741825 ∧ n.tmod 1073741825 ≤ 1073741824 := by
  rcases Int.le_total 0 n with h | h
  · rw [Int.tmod_eq_emod_of_nonneg h]; omega
  · rw [show n = -(-n) from by omega, Int.neg_tmod, Int.tmod_eq_emod_of_nonneg (by omega)]; omega

set_option maxHeartbeats 1000000 in
theorem within_any (x : Int) (w : World) :
    Calls Tryz.prog 47 #[.int .i64 x, .int .i64 0, .int .i64 1073741824] w fun e w' => (∃ r : Nat, e = .returned (.int .i64 (r : Int)) ∧ r ≤ 1073741824) ∧ w = w' := by
  have hm := tmodW x
  obtain ⟨q, hq⟩ : ∃ q, x.tmod 1073741825 = q := ⟨_, rfl⟩
  rw [hq] at hm
  go_enter Tryz.func47, Tryz.ntmps47
  rcases Int.lt_or_le x 0 with h0 | h0
  · rcases Int.lt_or_le q 0 with h2 | h2
    · go_wp2
      go_ret
      exact ⟨⟨(q + 1073741825).toNat, ret_int (by omega), by omega⟩, rfl⟩
    · go_wp2
      go_ret
      exact ⟨⟨q.toNat, ret_int (by omega), by omega⟩, rfl⟩
  · rcases Int.lt_or_le 1073741824 x with h1 | h1
    · rcases Int.lt_or_le q 0 with h2 | h2
      · go_wp2
        go_ret
        exact ⟨⟨(q + 1073741825).toNat, ret_int (by omega), by omega⟩, rfl⟩
      · go_wp2
        go_ret
        exact ⟨⟨q.toNat, ret_int (by omega), by omega⟩, rfl⟩
    · go_wp2
      go_ret
      exact ⟨⟨x.toNat, ret_int (by omega), by omega⟩, rfl⟩

/-- a tape in a block of its own; its numbers lie in older blocks -/
def TapeAt (w : World) (g : Nat) : Prop := ∃ (A : Option Addr) (n c k : Nat) (xs : List Int), w.heap[g]? = some (.cells #[.slice A n c, .int .i64 (k : Int)] 26 (0, 0)) ∧ k ≤ n ∧ n ≤ c ∧ n ≤ 9223372036854775807 ∧ Row w g 1 A n (xs.map fun x => .int .i64 x)
/-- all is as it was, a tape's block aside -/
def Aside (g : Nat) (w w' : World) : Prop := Below g w w' ∧ w.heap.size ≤ w'.heap.size ∧ ∀ k, k < w.heap.size → k ≠ g → w'.heap[k]? = w.heap[k]?
theorem Aside.refl (g : Nat) (w : World) : Aside g w w := ⟨Below.refl _ _, Nat.le_refl _, fun _ _ _ => rfl⟩
theorem Aside.trans {g : Nat} {a b c : World} (h : Aside g a b) (k : Aside g b c) : Aside g a c :=
  ⟨h.1.trans k.1, Nat.le_trans h.2.1 k.2.1, fun i hi hg => (k.2.2 i (by have := h.2.1; omega) hg).trans (h.2.2 i hi hg)⟩
theorem Aside.of_ext {g : Nat} {a b : World} (h : Below a.heap.size a b) (hg : g < a.heap.size) : Aside g a b :=
  ⟨h.mono (by omega), h.size, fun i hi _ => h.block i hi⟩
theorem Aside.drewN {g : Nat} {a b : World} (h : Aside g a b) (n : Nat) : Aside g a (b.drewN n) := ⟨below_drewN h.1 n, h.2.1, h.2.2⟩
theorem own_aside {g : Nat} {w w1 : World} {base : Nat} {e : TypeId} {size n : Nat} {v : Value} {xs : List Value} (h : w.ownsRow base e size v n xs) (hb : Aside g w w1) (hg : g < base) : w1.ownsRow base e size v n xs := by
  refine ⟨h.1, ?_⟩
  rcases h.2 with hn | ⟨g', cap, cur, rfl, hbg, hgg, rest⟩
  · exact .inl hn
  · exact .inr ⟨g', cap, cur, rfl, hbg, (hb.2.2 g' (Array.getElem?_eq_some_iff.1 hgg).1 (by omega)).trans hgg, rest⟩
theorem Aside.set {g : Nat} {a b : World} (h : Aside g a b) (j : Nat) (v : Value) : Aside g a (b.setCell ⟨g, j, none⟩ v) :=
  ⟨h.1.setCell (p := ⟨g, j, none⟩) (Nat.le_refl _) v, by simpa [World.setCell] using h.2.1, fun k hk hg => (Below.heap_setCell _ _ _ _ hg).trans (h.2.2 k hk hg)⟩
theorem TapeAt.lt {w : World} {g : Nat} (h : TapeAt w g) : g < w.heap.size := by
  obtain ⟨A, n, c, k, xs, h1, _⟩ := h
  exact (Array.getElem?_eq_some_iff.1 h1).1
theorem Row.upto {w w' : World} {B size n : Nat} {A : Option Addr} {xs : List Value} (h : Row w B size A n xs) (hb : Below B w w') : Row w' B size A n xs := h.below hb
theorem TapeAt.ext {w w' : World} {g : Nat} (h : TapeAt w g) (hb : Below w.heap.size w w') : TapeAt w' g := by
  have hg := h.lt
  obtain ⟨A, n, c, k, xs, h1, h2, h3, h4, h5⟩ := h
  exact ⟨A, n, c, k, xs, (hb.block g hg).trans h1, h2, h3, h4, h5.upto (hb.mono (by omega))⟩

set_option maxHeartbeats 2000000 in
set_option maxRecDepth 100000 in
theorem next_any (w : World) (g : Nat) (h : TapeAt w g) (n : Nat) (hn : n ≤ 1000000) :
    Calls Tryz.prog 25 #[.pointer (some ⟨g, 0, none⟩), .int .i64 (n : Int)] w fun e w' => ∃ r : Nat, e = .returned (.int .i64 (r : Int)) ∧ (r < n ∨ r = 0) ∧ TapeAt w' g ∧ Aside g w w' := by
  have hT := Lib.hid h
  obtain ⟨A, m, c, k, xs, h1, h2, h3, h4, h5⟩ := h
  have c0 := cell_of h1 (j := 0) rfl
  have c1 := cell_of h1 (j := 1) rfl
  have cf := blk_free h1
  have hglt : g < w.heap.size := (Array.getElem?_eq_some_iff.1 h1).1
  rcases Nat.lt_or_ge k m with hk | hk
  · have hki : (k : Int) < (m : Int) := by omega
    rcases Nat.lt_or_ge n 1 with hn1 | hn1
    · have hni : (n : Int) < 1 := by omega
      go_enter Tryz.func25, Tryz.ntmps25
      go_wp2_with fail
      go_quiet (fail)
      go_wp2_with fail
      go_ret
      exact ⟨0, rfl, .inr rfl, hT.out, (Aside.refl g w).drewN _⟩
    · have hni : (1 : Int) ≤ (n : Int) := by omega
      obtain ⟨b, o, rfl, hbB, hr⟩ := h5.2 (by omega)
      have hxl : xs.length = m := by have := h5.1; simpa using this
      obtain ⟨x, hx⟩ : ∃ x, xs[k]? = some x := ⟨_, List.getElem?_eq_getElem (by omega)⟩
      have hcx := hr k (.int .i64 x) (by rw [List.getElem?_map, hx]; rfl)
      have hn0 : (0 : Int) ≤ (n : Int) := by omega
      replace h1 := Lib.hid h1
      replace h5 := Lib.hid h5
      clear hr hx
      go_enter Tryz.func25, Tryz.ntmps25
      go_wp2_with fail
      go_quiet (fail)
      go_wp2_with fail
      have hq1 : ((w.drewN nq).setCell ⟨g, 1, none⟩ (.int .i64 ((k : Int) + 1))).drew.heap[g]? = some (.cells #[.slice (some ⟨b, o, none⟩) m c, .int .i64 (((k + 1 : Nat) : Int))] 26 (0, 0)) := heap_setCell_same _ g 1 _ _ (.int .i64 ((k : Int) + 1)) h1.out
      have hAs : Aside g w ((w.drewN nq).setCell ⟨g, 1, none⟩ (.int .i64 ((k : Int) + 1))).drew := ((Aside.refl g w).drewN nq).set 1 _ |>.drewN 1
      have hcx2 : ((w.drewN nq).setCell ⟨g, 1, none⟩ (.int .i64 ((k : Int) + 1))).drew.cell? ⟨b, o + k, none⟩ = some (.int .i64 x) := (hAs.1.cell (p := ⟨b, o + k, none⟩) hbB).trans hcx
      have hT2 : TapeAt ((w.drewN nq).setCell ⟨g, 1, none⟩ (.int .i64 ((k : Int) + 1))).drew g := ⟨_, m, c, k + 1, xs, hq1, by omega, h3, h4, h5.out.below hAs.1⟩
      have hS0 : (((w.drewN nq).setCell ⟨g, 1, none⟩ (.int .i64 ((k : Int) + 1))).drew.cell? ⟨g, 0, none⟩ = some (.slice (some ⟨b, o, none⟩) m c) ∧ ((w.drewN nq).setCell ⟨g, 1, none⟩ (.int .i64 ((k : Int) + 1))).drew.cell? ⟨g, 1, none⟩ = some (.int .i64 ((k : Int) + 1)) ∧ ((w.drewN nq).setCell ⟨g, 1, none⟩ (.int .i64 ((k : Int) + 1))).drew.cell? ⟨b, o + k, none⟩ = some (.int .i64 x)) := ⟨cell_of hq1 (j := 0) rfl, cell_of hq1 (j := 1) rfl, hcx2⟩
      have hwk : IntKind.i64.wrap (k : Int) = (k : Int) := by rw [IntKind.wrap_i64]; omega
      have hkm : ¬ ((m : Int) ≤ (k : Int)) := by omega
      replace hT2 := Lib.hid hT2
      replace hAs := Lib.hid hAs
      clear hq1 hcx2 c0 c1 cf hcx
      refine wp_region_can [(true, 0), (true, 1), (true, 2), (true, 3), (true, 4), (true, 5), (true, 6), (true, 7), (true, 8), (true, 9), (true, 10), (true, 12), (false, 11), (true, 13), (true, 14)] (fun u => u.cell? ⟨g, 0, none⟩ = some (.slice (some ⟨b, o, none⟩) m c) ∧ u.cell? ⟨g, 1, none⟩ = some (.int .i64 ((k : Int) + 1)) ∧ u.cell? ⟨b, o + k, none⟩ = some (.int .i64 x)) hS0 (by kernel_rfl) (by kernel_rfl) (by kernel_rfl) (fun _ _ d _ _ h => by cases d <;> exact h) ?_
      generalize ((w.drewN nq).setCell ⟨g, 1, none⟩ (.int .i64 ((k : Int) + 1))).drew = w3 at hT2 hAs hS0 ⊢
      repeat (first | refine wpCan_move rfl ?_ | (refine wpCan_cons rfl ?_; intro K hK; go_simp; refine hK _ _ _ ?_; clear hK K))
      refine wpCan_read (.slice (some ⟨b, o, none⟩) m c) rfl rfl hS0 (fun u hu => by obtain ⟨k0, k1, k2⟩ := hu; go_simp) ?_
      repeat (first | refine wpCan_move rfl ?_ | (refine wpCan_cons rfl ?_; intro K hK; go_simp; refine hK _ _ _ ?_; clear hK K))
      refine wpCan_read (.int .i64 ((k : Int) + 1)) rfl rfl hS0 (fun u hu => by obtain ⟨k0, k1, k2⟩ := hu; go_simp) ?_
      repeat (first | refine wpCan_move rfl ?_ | (refine wpCan_cons rfl ?_; intro K hK; go_simp; refine hK _ _ _ ?_; clear hK K))
      refine wpCan_read (.int .i64 x) rfl rfl hS0 (fun u hu => by obtain ⟨k0, k1, k2⟩ := hu; go_simp) ?_
      repeat (first | refine wpCan_move rfl ?_ | (refine wpCan_cons rfl ?_; intro K hK; go_simp; refine hK _ _ _ ?_; clear hK K))
      refine wpCan_cons rfl ?_
      intro K hK
      go_simp
      refine (within_any x w3).mono ?_
      rintro e w4 ⟨⟨r, rfl, hr9⟩, rfl⟩
      refine can_same hS0 (hK _ _ _ ?_)
      clear hK K
      obtain ⟨r2, hr2, hr3⟩ : ∃ r2 : Nat, (r : Int).tmod (n : Int) = (r2 : Int) ∧ r2 < n := ⟨r % n, by rw [Int.tmod_eq_emod_of_nonneg (by omega)]; omega, Nat.mod_lt _ (by omega)⟩
      have hnz : ¬ (n = 0) := by omega
      repeat (first | refine wpCan_move rfl ?_ | (refine wpCan_cons rfl ?_; intro K hK; go_simp; refine hK _ _ _ ?_; clear hK K))
      refine wpCan_nil ?_
      go_wp2_with fail
      go_ret
      exact ⟨r2, rfl, .inl hr3, hT2.out, hAs.out⟩
  · obtain rfl : k = m := by omega
    go_enter Tryz.func25, Tryz.ntmps25
    go_wp2_with fail
    go_quiet (fail)
    go_wp2_with fail
    go_ret
    exact ⟨0, rfl, .inr rfl, hT.out, (Aside.refl g w).drewN _⟩
end Go.Proofs.YtmmgfoepfapnkaaGreatDoor

namespace Go.Proofs.YtmmgfoepfapnkaaGreatDoor
open Go.RowKit
attribute [local go_sem] canOp readsAs readUpon

def shortV (n : Nat) : Value → Bool
  | .string b => decide (b.size ≤ n)
  | _ => false
theorem shortV_spec {n : Nat} {v : Value} (h : shortV n v = true) : ∃ t, v = .string (bs t) ∧ t.length ≤ n := by
  cases v with
  | string b =>
    refine ⟨b.data.toList, rfl, ?_⟩
    have : b.size ≤ n := of_decide_eq_true h
    simpa using this
  | _ => cases h
theorem lit_short {w : World} {q n : Nat} {l : List Value} {t : TypeId} {fr : Nat × Nat} (h : w.heap[q]? = some (.cells ⟨l⟩ t fr)) (ha : l.all (shortV n) = true) {j : Nat} (hj : j < l.length) : ∃ s, w.cell? ⟨q, j, none⟩ = some (.string (bs s)) ∧ s.length ≤ n := by
  obtain ⟨s, h1, h2⟩ := shortV_spec (List.all_eq_true.1 ha l[j] (List.getElem_mem hj))
  exact ⟨s, cell_of h (by rw [List.getElem?_eq_getElem hj, h1]), h2⟩
theorem next_of (w : World) (g : Nat) (h : TapeAt w g) (n : Nat) (hn : n ≤ 1000000) (N : Int) (hN : N = (n : Int)) :
    Calls Tryz.prog 25 #[.pointer (some ⟨g, 0, none⟩), .int .i64 N] w fun e w' => ∃ r : Nat, e = .returned (.int .i64 (r : Int)) ∧ (r < n ∨ r = 0) ∧ TapeAt w' g ∧ Aside g w w' := by
  subst hN
  exact next_any w g h n hn
/-- a literal row of texts, one of which is taken by the tape's next number -/
theorem next_lit (w : World) (g : Nat) (h : TapeAt w g) (l : List Value) (t : TypeId) (m n : Nat) (hl : l.length = n) (hn0 : 0 < n) (hn : n ≤ 1000000) (ha : l.all (shortV m) = true) (N : Int) (hN : N = (n : Int)) :
    Calls Tryz.prog 25 #[.pointer (some ⟨g, 0, none⟩), .int .i64 N] (w.alloc (.cells ⟨l⟩ t)) fun e w' => ∃ (r : Nat) (s : List UInt8), e = .returned (.int .i64 (r : Int)) ∧ r < n ∧ w'.cell? ⟨w.heap.size, r, none⟩ = some (.string (bs s)) ∧ s.length ≤ m ∧ TapeAt w' g ∧ Aside g w w' := by
  refine (next_of _ g (h.ext (ext_alloc w _)) n hn N hN).mono ?_
  rintro e w' ⟨r, rfl, hr, hT, hA⟩
  have hg := h.lt
  have hrn : r < n := by omega
  obtain ⟨s, h1, h2⟩ := lit_short (heap_alloc_new w (.cells ⟨l⟩ t)) ha (j := r) (by omega)
  exact ⟨r, s, rfl, hrn, by rw [World.cell?_of_block (hA.2.2 w.heap.size (by simp) (by show w.heap.size ≠ g; omega))]; exact h1, h2, hT, (Aside.of_ext (ext_alloc w _) hg).trans hA⟩

set_option maxHeartbeats 2000000 in
set_option maxRecDepth 100000 in
theorem word_any (w : World) (g : Nat) (h : TapeAt w g) :
    Calls Tryz.prog 49 #[.pointer (some ⟨g, 0, none⟩)] w fun e w' => ∃ s : List UInt8, e = .returned (.string (bs s)) ∧ s.length ≤ 6 ∧ TapeAt w' g ∧ Aside g w w' := by
  have hN := fun l t hl ha => next_lit w g h l t 6 32 hl (by omega) (by omega) ha 32 rfl
  replace hN := Lib.hid hN
  go_enter Tryz.func49, Tryz.ntmps49
  go_wp2_with fail
  refine (hN.out _ _ (by kernel_rfl) (by kernel_rfl)).mono ?_
  rintro e w1 ⟨r, s, rfl, hr, hc, hs, hT, hA⟩
  have hr0 : (0 : Int) ≤ (r : Int) := by omega
  have hr1 : (r : Int) < 32 := by omega
  replace hT := Lib.hid hT
  replace hA := Lib.hid hA
  go_wp2_with fail
  go_ret
  exact ⟨s, rfl, hs, hT.out, hA.out⟩

set_option maxHeartbeats 2000000 in
set_option maxRecDepth 100000 in
theorem end_any (w : World) (g : Nat) (h : TapeAt w g) (k : Nat) :
    Calls Tryz.prog 26 #[.pointer (some ⟨g, 0, none⟩), .int .i64 (k : Int)] w fun e w' => ∃ s : List UInt8, e = .returned (.string (bs s)) ∧ s.length ≤ 10 ∧ TapeAt w' g ∧ Aside g w w' := by
  have hN := fun l t hl ha => next_lit w g h l t 10 3 hl (by omega) (by omega) ha 3 rfl
  replace hN := Lib.hid hN
  go_enter Tryz.func26, Tryz.ntmps26
  rcases Nat.eq_zero_or_pos k with rfl | hk
  · go_wp2_with fail
    go_ret
    exact ⟨[10], rfl, by decide, h, Aside.refl _ _⟩
  · have hk1 : ((k : Int) == 0) = false := by rw [beq_eq_false_iff_ne]; omega
    go_wp2_with fail
    refine (hN.out _ _ (by kernel_rfl) (by kernel_rfl)).mono ?_
    rintro e w1 ⟨r, s, rfl, hr, hc, hs, hT, hA⟩
    have hr0 : (0 : Int) ≤ (r : Int) := by omega
    have hr1 : (r : Int) < 3 := by omega
    replace hT := Lib.hid hT
    replace hA := Lib.hid hA
    go_wp2_with fail
    go_ret
    exact ⟨s, rfl, hs, hT.out, hA.out⟩
end Go.Proofs.YtmmgfoepfapnkaaGreatDoor

namespace Go.Proofs.YtmmgfoepfapnkaaGreatDoor
open Go.RowKit
attribute [local go_sem] canOp readsAs readUpon

theorem str_out {b : ByteArray} {n : Nat} {P : Prop} (h : b.size ≤ n) (hp : P) : ∃ s : List UInt8, Ending.returned (.string b) = .returned (.string (bs s)) ∧ s.length ≤ n ∧ P := ⟨b.data.toList, rfl, by simpa using h, hp⟩
set_option maxHeartbeats 8000000 in
set_option maxRecDepth 100000 in
theorem line_of_any (w : World) (g : Nat) (h : TapeAt w g) :
    Calls Tryz.prog 50 #[.pointer (some ⟨g, 0, none⟩)] w fun e w' => ∃ s : List UInt8, e = .returned (.string (bs s)) ∧ s.length ≤ 100 ∧ TapeAt w' g ∧ Aside g w w' := by
  have hN := fun l t hl ha => next_lit w g h l t 10 16 hl (by omega) (by omega) ha 16 rfl
  replace hN := Lib.hid hN
  go_enter Tryz.func50, Tryz.ntmps50
  go_wp2_with fail
  refine (hN.out _ _ (by kernel_rfl) (by kernel_rfl)).mono ?_
  rintro e w1 ⟨r1, s1, rfl, hr1, hc1, hs1, hT1, hA1⟩
  have z1 := bs_size s1
  have hr10 : (0 : Int) ≤ (r1 : Int) := by omega
  have hr11 : (r1 : Int) < 16 := by omega
  replace hT1 := Lib.hid hT1
  replace hA1 := Lib.hid hA1
  go_wp2_with fail
  refine (next_of w1 g hT1.out 14 (by omega) 14 rfl).mono ?_
  rintro e w2 ⟨r2, rfl, hr2, hT2, hA2⟩
  have hA := hA1.out.trans hA2
  replace hT2 := Lib.hid hT2
  replace hA := Lib.hid hA
  have hr2' : r2 < 14 := by omega
  clear hr2 hT1 hA1 hA2 hc1 hN
  have l6 := fun l t hl ha => next_lit w2 g hT2.out l t 20 6 hl (by omega) (by omega) ha 6 rfl
  have l7 := fun l t hl ha => next_lit w2 g hT2.out l t 20 7 hl (by omega) (by omega) ha 7 rfl
  have l3 := fun l t hl ha => next_lit w2 g hT2.out l t 20 3 hl (by omega) (by omega) ha 3 rfl
  replace l6 := Lib.hid l6
  replace l7 := Lib.hid l7
  replace l3 := Lib.hid l3
  obtain rfl | rfl | rfl | rfl | rfl | rfl | rfl | hge : r2 = 0 ∨ r2 = 1 ∨ r2 = 2 ∨ r2 = 3 ∨ r2 = 4 ∨ r2 = 5 ∨ r2 = 6 ∨ 7 ≤ r2 := by omega
  · go_wp2_with fail
    go_ret
    exact ⟨s1, rfl, by omega, hT2.out, hA.out⟩
  · go_wp2_with fail
    refine (word_any w2 g hT2.out).mono ?_
    rintro e w3 ⟨s2, rfl, hs2, hT3, hA3⟩
    have hA' := Lib.hid (hA.out.trans hA3)
    have z2 := bs_size s2
    replace hT3 := Lib.hid hT3
    clear hA3
    go_wp2_with fail
    go_ret
    refine str_out ?_ ⟨hT3.out, hA'.out⟩
    simp only [ByteArray.size_append, z1, z2]; (try simp [ByteArray.size]); omega
  · go_wp2_with fail
    refine (l6.out _ _ (by kernel_rfl) (by kernel_rfl)).mono ?_
    rintro e w3 ⟨r3, s2, rfl, hr3, hc3, hs2, hT3, hA3⟩
    have hr30 : (0 : Int) ≤ (r3 : Int) := by omega
    have hr31 : (r3 : Int) < 6 := by omega
    have hA' := Lib.hid (hA.out.trans hA3)
    have z2 := bs_size s2
    replace hT3 := Lib.hid hT3
    clear hA3
    go_wp2_with fail
    go_ret
    refine str_out ?_ ⟨hT3.out, hA'.out⟩
    simp only [ByteArray.size_append, z1, z2]; (try simp [ByteArray.size]); omega
  · go_wp2_with fail
    refine (l7.out _ _ (by kernel_rfl) (by kernel_rfl)).mono ?_
    rintro e w3 ⟨r3, s2, rfl, hr3, hc3, hs2, hT3, hA3⟩
    have hr30 : (0 : Int) ≤ (r3 : Int) := by omega
    have hr31 : (r3 : Int) < 7 := by omega
    have hA' := Lib.hid (hA.out.trans hA3)
    have z2 := bs_size s2
    replace hT3 := Lib.hid hT3
    clear hA3
    go_wp2_with fail
    go_ret
    refine str_out ?_ ⟨hT3.out, hA'.out⟩
    simp only [ByteArray.size_append, z1, z2]; (try simp [ByteArray.size]); omega
  · go_wp2_with fail
    refine (l7.out _ _ (by kernel_rfl) (by kernel_rfl)).mono ?_
    rintro e w3 ⟨r3, s2, rfl, hr3, hc3, hs2, hT3, hA3⟩
    have hr30 : (0 : Int) ≤ (r3 : Int) := by omega
    have hr31 : (r3 : Int) < 7 := by omega
    have hA' := Lib.hid (hA.out.trans hA3)
    have z2 := bs_size s2
    replace hT3 := Lib.hid hT3
    clear hA3
    go_wp2_with fail
    go_ret
    refine str_out ?_ ⟨hT3.out, hA'.out⟩
    simp only [ByteArray.size_append, z1, z2]; (try simp [ByteArray.size]); omega
  · go_wp2_with fail
    refine (l6.out _ _ (by kernel_rfl) (by kernel_rfl)).mono ?_
    rintro e w3 ⟨r3, s2, rfl, hr3, hc3, hs2, hT3, hA3⟩
    have hr30 : (0 : Int) ≤ (r3 : Int) := by omega
    have hr31 : (r3 : Int) < 6 := by omega
    have hA' := Lib.hid (hA.out.trans hA3)
    have z2 := bs_size s2
    replace hT3 := Lib.hid hT3
    clear hA3
    go_wp2_with fail
    go_ret
    refine str_out ?_ ⟨hT3.out, hA'.out⟩
    simp only [ByteArray.size_append, z1, z2]; (try simp [ByteArray.size]); omega
  · go_wp2_with fail
    refine (l3.out _ _ (by kernel_rfl) (by kernel_rfl)).mono ?_
    rintro e w3 ⟨r3, s2, rfl, hr3, hc3, hs2, hT3, hA3⟩
    have hr30 : (0 : Int) ≤ (r3 : Int) := by omega
    have hr31 : (r3 : Int) < 3 := by omega
    have hA' := Lib.hid (hA.out.trans hA3)
    have z2 := bs_size s2
    replace hT3 := Lib.hid hT3
    clear hA3
    go_wp2_with fail
    go_ret
    refine str_out ?_ ⟨hT3.out, hA'.out⟩
    simp only [ByteArray.size_append, z1, z2]; (try simp [ByteArray.size]); omega
  · have e0 : ((r2 : Int) == 0) = false := by rw [beq_eq_false_iff_ne]; omega
    have e1 : ((r2 : Int) == 1) = false := by rw [beq_eq_false_iff_ne]; omega
    have e2 : ((r2 : Int) == 2) = false := by rw [beq_eq_false_iff_ne]; omega
    have e3 : ((r2 : Int) == 3) = false := by rw [beq_eq_false_iff_ne]; omega
    have e4 : ((r2 : Int) == 4) = false := by rw [beq_eq_false_iff_ne]; omega
    have e5 : ((r2 : Int) == 5) = false := by rw [beq_eq_false_iff_ne]; omega
    have e6 : ((r2 : Int) == 6) = false := by rw [beq_eq_false_iff_ne]; omega
    go_wp2_with fail
    refine (word_any w2 g hT2.out).mono ?_
    rintro e w3 ⟨s2, rfl, hs2, hT3, hA3⟩
    have hA' := Lib.hid (hA.out.trans hA3)
    have z2 := bs_size s2
    replace hT3 := Lib.hid hT3
    clear hA3
    go_wp2_with fail
    refine (word_any w3 g hT3.out).mono ?_
    rintro e w4 ⟨s3, rfl, hs3, hT4, hA4⟩
    have hA'' := Lib.hid (hA'.out.trans hA4)
    have z3 := bs_size s3
    replace hT4 := Lib.hid hT4
    clear hA4
    go_wp2_with fail
    go_ret
    refine str_out ?_ ⟨hT4.out, hA''.out⟩
    simp only [ByteArray.size_append, z1, z2, z3]; (try simp [ByteArray.size]); omega
end Go.Proofs.YtmmgfoepfapnkaaGreatDoor

namespace Go.Proofs.YtmmgfoepfapnkaaGreatDoor
open Go.RowKit

theorem TapeAt.below {w w' : World} {g : Nat} (h : TapeAt w g) (hb : Below (g + 1) w w') : TapeAt w' g := by
  obtain ⟨A, n, c, k, xs, h1, h2, h3, h4, h5⟩ := h
  exact ⟨A, n, c, k, xs, (hb.block g (by omega)).trans h1, h2, h3, h4, h5.upto (hb.mono (by omega))⟩

end Go.Proofs.YtmmgfoepfapnkaaGreatDoor
