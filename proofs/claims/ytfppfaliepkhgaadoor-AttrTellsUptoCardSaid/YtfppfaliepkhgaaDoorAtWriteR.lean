/- The document's own answer of chapter 5: an info, written. -/
import Derived.Test.YtfppfaliepkhgaaDoorAtRead
import Derived.Test.YtfppfaliepkhgaaDoorAtWriteM
namespace Go.Proofs.YtfppfaliepkhgaaDoor
open Go.RowKit
attribute [local go_sem] canOp readsAs readUpon

theorem textEI : EI Tryd.prog 33 9 1 16 := EI.mk' Tryd.underlying33 (z := .string .empty) (by kernel_rfl) rfl (by omega)
/-- an owned row lies in no block of another type -/
theorem own_other {w : World} {base : Nat} {e : TypeId} {size n : Nat} {v : Value} {xs : List Value} (h : w.ownsRow base e size v n xs) {g : Nat} {cs : Array Value} {t : TypeId} {fr : Nat × Nat} (hg : w.heap[g]? = some (.cells cs t fr)) (ht : t ≠ e) : v.ownBlock ≠ some g := by
  rcases h.2 with ⟨rfl, _⟩ | ⟨g', cap, cur, rfl, _, hgg, _⟩
  · simp [Value.ownBlock]
  · intro he
    have : g' = g := by simpa [Value.ownBlock] using he
    subst this
    rw [hgg] at hg
    injection hg with hg
    injection hg with _ h2
    exact ht h2.symm
def trioCells (a : At.Attr) : Array Value := #[.string ⟨#[110, 97, 109, 101]⟩, .string (bs a.name), .bool false, .string ⟨#[102, 105, 108, 101]⟩, .string (bs a.file), .bool false, .string ⟨#[99, 111, 109, 109, 101, 110, 116]⟩, .string (bs a.style), .bool false]
theorem trio_cell {a : At.Attr} {w : World} {g : Nat} {t : TypeId} {fr : Nat × Nat} (h : w.heap[g]? = some (.cells (trioCells a) t fr)) {k : Nat} (hk : k < 3) :
    w.cell? ⟨g, k * 3, none⟩ = some (.string (bs ((At.trio a)[k]'hk).1)) ∧ w.cell? ⟨g, k * 3 + 1, none⟩ = some (.string (bs ((At.trio a)[k]'hk).2)) ∧ w.cell? ⟨g, k * 3 + 2, none⟩ = some (.bool false) := by
  match k, hk with
  | 0, _ => exact ⟨blk_cell h 0, blk_cell h 1, blk_cell h 2⟩
  | 1, _ => exact ⟨blk_cell h 3, blk_cell h 4, blk_cell h 5⟩
  | 2, _ => exact ⟨blk_cell h 6, blk_cell h 7, blk_cell h 8⟩
theorem trio_key {a : At.Attr} {k : Nat} (hk : k < 3) : ((At.trio a)[k]'hk).1.length ≤ 7 := by
  match k, hk with
  | 0, _ => exact (by decide : At.wName.length ≤ 7)
  | 1, _ => exact (by decide : At.wFile.length ≤ 7)
  | 2, _ => exact (by decide : At.wComment.length ≤ 7)
theorem trio_text {a : At.Attr} (ha : At.fits a) {k : Nat} (hk : k < 3) : ((At.trio a)[k]'hk).2.length ≤ 100000000 := by
  obtain ⟨_, h1, h2, h3⟩ := ha
  match k, hk with
  | 0, _ => exact h1
  | 1, _ => exact h2
  | 2, _ => exact h3
/-- what is there behind k of the three -/
def At.upto (a : At.Attr) (k : Nat) : List (List UInt8) := (if a.lang = [] then [] else [a.lang]) ++ ((At.trio a).take k).flatMap At.po
theorem upto_next {a : At.Attr} {k : Nat} (hk : k < 3) : At.upto a (k + 1) = At.upto a k ++ At.po ((At.trio a)[k]'hk) := by
  unfold At.upto
  rw [List.take_succ_eq_append_getElem (show k < (At.trio a).length from hk), List.flatMap_append, ← List.append_assoc, List.flatMap_cons, List.flatMap_nil, List.append_nil]
  rfl
theorem upto_len (a : At.Attr) (k : Nat) (hk : k ≤ 3) : (At.upto a k).length ≤ 1 + k := by
  have key : ∀ p, (At.po p).length ≤ 1 := by intro p; unfold At.po; split <;> simp
  have f1 : (if a.lang = [] then [] else [a.lang]).length ≤ 1 := by split <;> simp
  induction k with
  | zero => unfold At.upto; simpa using f1
  | succ k ih =>
    rw [upto_next (by omega), List.length_append]
    have := ih (by omega)
    have := key ((At.trio a)[k]'(by simp [At.trio]; omega))
    omega

theorem At.same_comm (x y : At.Attr) : At.same x y = At.same y x := by rw [Bool.eq_iff_iff, At.same_iff, At.same_iff]; exact eq_comm
theorem parts_bound {a : At.Attr} (h : At.fits a) : ∀ x ∈ At.parts a, x.length ≤ 300000000 := by
  intro x hx
  obtain ⟨h1, h2, h3, h4⟩ := h
  unfold At.parts At.trio At.po at hx
  simp only [List.mem_append, List.flatMap_cons, List.flatMap_nil] at hx
  have key : ∀ (k t : List UInt8), k.length ≤ 7 → t.length ≤ 100000000 → x ∈ (if t = [] then [] else [k ++ 61 :: At.value t]) → x.length ≤ 300000000 := by
    intro k t hk ht h
    have := At.pval_len t
    rw [← At.value_eq] at this
    split at h
    · cases h
    · simp at h; rw [h]; simp; omega
  rcases hx with ((hx | hx | hx | hx | hx) | hx) | hx
  · split at hx
    · cases hx
    · simp at hx; rw [hx]; omega
  · exact key _ _ (by decide) h2 hx
  · exact key _ _ (by decide) h3 hx
  · exact key _ _ (by decide) h4 hx
  · cases hx
  · split at hx
    · simp at hx; rw [hx]; decide
    · cases hx
  · split at hx
    · simp at hx; rw [hx]; decide
    · cases hx

theorem b_true {b : Bool} (h : ¬ b = false) : true = b := by cases b <;> simp_all
theorem b_false {b : Bool} (h : ¬ b = true) : false = b := by cases b <;> simp_all
theorem n_true {b : Bool} (h : b = false) : ¬ true = b := by cases b <;> simp_all
theorem n_false {b : Bool} (h : b = true) : ¬ false = b := by cases b <;> simp_all
end Go.Proofs.YtfppfaliepkhgaaDoor
