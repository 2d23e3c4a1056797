/- A tape of numbers: words, ends, lines of whatever kind: that they come, and how long they are. -/
import Derived.Test.YtjkmhcolnidflaaTape
import Derived.Test.YtjkmhcolnidflaaByt
namespace Go.Proofs.Ytjkmhcolnidflaa
open Go.RowKit
attribute [local go_sem] canOp readsAs readUpon

def shortV (n : Nat) : Value → Bool
  | .string b => decide (b.size ≤ n)
  | _ => false
theorem shortV_spec {n : Nat} {v : Value} (h : shortV n v = true) : ∃ t, v = .string (bs t) ∧ t.length ≤ n := by
  cases v with
  | string b =>
    refine ⟨b.data.toList, rfl, ?_⟩
    have : b.size ≤ n := of_decide_eq_true h
    simpa using this
  | _ => cases h
theorem lit_short {w : World} {q n : Nat} {l : List Value} {t : TypeId} {fr : Nat × Nat} (h : w.heap[q]? = some (.cells ⟨l⟩ t fr)) (ha : l.all (shortV n) = true) {j : Nat} (hj : j < l.length) : ∃ s, w.cell? ⟨q, j, none⟩ = some (.string (bs s)) ∧ s.length ≤ n := by
  obtain ⟨s, h1, h2⟩ := shortV_spec (List.all_eq_true.1 ha l[j] (List.getElem_mem hj))
  exact ⟨s, cell_of h (by rw [List.getElem?_eq_getElem hj, h1]), h2⟩
theorem next_of (w : World) (g : Nat) (h : TapeAt w g) (n : Nat) (hn : n ≤ 1000000) (N : Int) (hN : N = (n : Int)) :
    Calls Try.prog 22 #[.pointer (some ⟨g, 0, none⟩), .int .i64 N] w fun e w' => ∃ r : Nat, e = .returned (.int .i64 (r : Int)) ∧ (r < n ∨ r = 0) ∧ TapeAt w' g ∧ Aside g w w' := by
  subst hN
  exact next_any w g h n hn
/-- a literal row of texts, one of which is taken by the tape's next number -/
theorem next_lit (w : World) (g : Nat) (h : TapeAt w g) (l : List Value) (t : TypeId) (m n : Nat) (hl : l.length = n) (hn0 : 0 < n) (hn : n ≤ 1000000) (ha : l.all (shortV m) = true) (N : Int) (hN : N = (n : Int)) :
    Calls Try.prog 22 #[.pointer (some ⟨g, 0, none⟩), .int .i64 N] (w.alloc (.cells ⟨l⟩ t)) fun e w' => ∃ (r : Nat) (s : List UInt8), e = .returned (.int .i64 (r : Int)) ∧ r < n ∧ w'.cell? ⟨w.heap.size, r, none⟩ = some (.string (bs s)) ∧ s.length ≤ m ∧ TapeAt w' g ∧ Aside g w w' := by
  refine (next_of _ g (h.ext (ext_alloc w _)) n hn N hN).mono ?_
  rintro e w' ⟨r, rfl, hr, hT, hA⟩
  have hg := h.lt
  have hrn : r < n := by omega
  obtain ⟨s, h1, h2⟩ := lit_short (heap_alloc_new w (.cells ⟨l⟩ t)) ha (j := r) (by omega)
  exact ⟨r, s, rfl, hrn, by rw [World.cell?_of_block (hA.2.2 w.heap.size (by simp) (by show w.heap.size ≠ g; omega))]; exact h1, h2, hT, (Aside.of_ext (ext_alloc w _) hg).trans hA⟩

set_option maxHeartbeats 2000000 in
set_option maxRecDepth 100000 in
theorem word_any (w : World) (g : Nat) (h : TapeAt w g) :
    Calls Try.prog 23 #[.pointer (some ⟨g, 0, none⟩)] w fun e w' => ∃ s : List UInt8, e = .returned (.string (bs s)) ∧ s.length ≤ 10 ∧ TapeAt w' g ∧ Aside g w w' := by
  have hN := fun l t hl ha => next_lit w g h l t 10 32 hl (by omega) (by omega) ha 32 rfl
  replace hN := Lib.hid hN
  go_enter Try.func23, Try.ntmps23
  go_wp2_with fail
  refine (hN.out _ _ (by kernel_rfl) (by kernel_rfl)).mono ?_
  rintro e w1 ⟨r, s, rfl, hr, hc, hs, hT, hA⟩
  have hr0 : (0 : Int) ≤ (r : Int) := by omega
  have hr1 : (r : Int) < 32 := by omega
  replace hT := Lib.hid hT
  replace hA := Lib.hid hA
  go_wp2_with fail
  go_ret
  exact ⟨s, rfl, hs, hT.out, hA.out⟩

end Go.Proofs.Ytjkmhcolnidflaa
