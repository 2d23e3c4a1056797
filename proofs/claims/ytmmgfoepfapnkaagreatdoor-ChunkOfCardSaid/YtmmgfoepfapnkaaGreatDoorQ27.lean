/- Law 14's documents of a tape. -/
import Derived.Test.YtmmgfoepfapnkaaGreatDoorQ26
import Derived.Test.YtmmgfoepfapnkaaGreatDoorQ05
namespace Go.Proofs.YtmmgfoepfapnkaaGreatDoor
open Go.RowKit
attribute [local go_sem] canOp readsAs readUpon

theorem ck_tape_new (w : World) (xs : List Int) (A : Option Addr) (c : Nat) (h : Row w w.heap.size 1 A xs.length (icells xs)) (hc : xs.length ≤ c) (hl : xs.length ≤ 9223372036854775807) :
    TapeAt (w.alloc (.cells #[.slice A xs.length c, .int .i64 0] 26)) w.heap.size :=
  ⟨A, xs.length, c, 0, xs, heap_alloc_new w _, by omega, hc, hl, h.below (ext_alloc w _)⟩
/-- documents as a tape gives them -/
def TDocs (w wx : World) (v : Value) : Prop := ∃ (A : Option Addr) (c : Nat) (l : List Ck.Src) (css : List (List Value)), v = .slice A l.length c ∧ SRow wx wx.heap.size A l.length l css ∧ l.length ≤ 4 ∧ l.length ≤ c ∧ (∀ s ∈ l, s.data.length ≤ 20000 ∧ s.path.length ≤ 10) ∧ Below w.heap.size w wx
theorem TDocs.good {w wa w1 : World} {A : Option Addr} {n c : Nat} {l : List Ck.Src} {css : List (List Value)} (hS : SRow w1 w1.heap.size A n l css) (hnc : n ≤ c) (hn : n ≤ 3) (hs : ∀ s ∈ l, s.data.length ≤ 20000 ∧ s.path.length ≤ 10) (ha : Below w.heap.size w wa) (hA : Aside w.heap.size wa w1) : TDocs w w1 (.slice A n c) := by
  have hl := hS.1
  subst hl
  exact ⟨A, c, l, css, rfl, hS, by omega, hnc, hs, ha.trans hA.1⟩
theorem TDocs.wild {w wa w1 w2 : World} {v : Value} {l : List Ck.Src} (hS : OwnS w2 w1.heap.size v l) (hn : l.length ≤ 4) (hs : ∀ s ∈ l, s.path.length ≤ 10 ∧ s.data.length ≤ 6000) (ha : Below w.heap.size w wa) (hA : Aside w.heap.size wa w1) (hA2 : Aside w.heap.size w1 w2) : TDocs w w2 v := by
  obtain ⟨css, ho, he⟩ := hS
  obtain ⟨A, c, rfl, hc⟩ := own_shape ho
  obtain ⟨css2, hr, _⟩ := OwnS.srow ⟨css, ho, he⟩
  exact ⟨A, c, l, css2, rfl, hr, hn, hc, fun s h => by have := hs s h; omega, (ha.trans hA.1).trans hA2.1⟩
end Go.Proofs.YtmmgfoepfapnkaaGreatDoor
