/- The document's own answer of chapter 6: headings, breaks, quotes, items. The document's own answer of chapter 6: quotes and headings. The document's own answer of chapter 6: items. Law 6: the values that the functions of a line give, written out. -/
import Derived.Test.YtmmgfoepfapnkaaGreatDoorQ02
import Derived.Test.YtmmgfoepfapnkaaGreatDoorQ09
import Derived.Test.YtmmgfoepfapnkaaGreatDoorQ08
import Derived.Deep.QuietTactic
import Derived.BigQuiet
namespace Go.Proofs.YtmmgfoepfapnkaaGreatDoor
open Go.RowKit

/-- from a place on -/
theorem along_at {l : List UInt8} {c : UInt8} {k : Nat} (hk : k < l.length) : (l.drop k).all (Lf.along c) = (Lf.along c l[k] && (l.drop (k + 1)).all (Lf.along c)) := by
  rw [List.drop_eq_getElem_cons hk, List.all_cons]
theorem count_at {l : List UInt8} {c : UInt8} {k : Nat} (hk : k < l.length) : (l.drop k).count c = (l.drop (k + 1)).count c + (if l[k] = c then 1 else 0) := by
  rw [List.drop_eq_getElem_cons hk, List.count_cons]
  simp

end Go.Proofs.YtmmgfoepfapnkaaGreatDoor

namespace Go.Proofs.YtmmgfoepfapnkaaGreatDoor
open Go.RowKit

def quotev : Option (List UInt8) → Value
  | none => .tuple #[.string ⟨#[]⟩, .bool false]
  | some r => .tuple #[.string (bs r), .bool true]
def headv : Option (Nat × List UInt8) → Value
  | none => .tuple #[.int .i64 0, .string ⟨#[]⟩, .bool false]
  | some (n, t) => .tuple #[.int .i64 (n : Int), .string (bs t), .bool true]

theorem quote_nil {l : List UInt8} (h : Fn.rs l = []) : Lf.quote l = none := by unfold Lf.quote; rw [h]
theorem quote_no {l r : List UInt8} {c : UInt8} (h : Fn.rs l = c :: r) (h1 : ¬ (Fn.cl l ≤ 3 ∧ c = 62)) : Lf.quote l = none := by unfold Lf.quote; rw [h]; simp only; rw [if_neg h1]
theorem quote_yes {l r : List UInt8} {c : UInt8} (h : Fn.rs l = c :: r) (h1 : Fn.cl l ≤ 3 ∧ c = 62) : Lf.quote l = some (Cl.strip 1 r) := by unfold Lf.quote; rw [h]; simp only; rw [if_pos h1]
theorem head_no {l : List UInt8} (h : ¬ (Fn.cl l ≤ 3 ∧ 1 ≤ Fn.run 35 (Fn.rs l) ∧ Fn.run 35 (Fn.rs l) ≤ 6 ∧ Lf.stop ((Fn.rs l).drop (Fn.run 35 (Fn.rs l))) = true)) : Lf.heading l = none := if_neg h
theorem head_yes {l : List UInt8} (h : Fn.cl l ≤ 3 ∧ 1 ≤ Fn.run 35 (Fn.rs l) ∧ Fn.run 35 (Fn.rs l) ≤ 6 ∧ Lf.stop ((Fn.rs l).drop (Fn.run 35 (Fn.rs l))) = true) :
    Lf.heading l = some (Fn.run 35 (Fn.rs l), Lf.title (Fn.trim ((Fn.rs l).drop (Fn.run 35 (Fn.rs l))))) := if_pos h
end Go.Proofs.YtmmgfoepfapnkaaGreatDoor

namespace Go.Proofs.YtmmgfoepfapnkaaGreatDoor
open Go.RowKit

def itemv : Option (UInt8 × Nat × List UInt8) → Value
  | none => .tuple #[.int .u8 0, .int .i64 0, .string ⟨#[]⟩, .bool false]
  | some (c, k, t) => .tuple #[.int .u8 (c.toNat : Int), .int .i64 (k : Int), .string (bs t), .bool true]

theorem item_nil {l : List UInt8} (h : Fn.rs l = []) : Lf.item l = none := by unfold Lf.item; rw [h]
theorem item_no {l r : List UInt8} {c : UInt8} (h : Fn.rs l = c :: r) (h1 : ¬ (Fn.cl l ≤ 3 ∧ Lf.bullet c = true ∧ Lf.brk l = false ∧ Lf.stop r = true)) : Lf.item l = none := by unfold Lf.item; rw [h]; simp only; rw [if_neg h1]
theorem item_emp {l r : List UInt8} {c : UInt8} (h : Fn.rs l = c :: r) (h1 : Fn.cl l ≤ 3 ∧ Lf.bullet c = true ∧ Lf.brk l = false ∧ Lf.stop r = true) (h2 : Fn.emp r = true) : Lf.item l = some (c, Fn.cl l + 2, []) := by
  unfold Lf.item; rw [h]; simp only; rw [if_pos h1, if_pos h2]
theorem item_yes {l r : List UInt8} {c : UInt8} (h : Fn.rs l = c :: r) (h1 : Fn.cl l ≤ 3 ∧ Lf.bullet c = true ∧ Lf.brk l = false ∧ Lf.stop r = true) (h2 : Fn.emp r = false) :
    Lf.item l = some (c, Fn.cl l + 1 + Lf.inner (Fn.cl r), Cl.strip (Lf.inner (Fn.cl r)) r) := by
  unfold Lf.item; rw [h]; simp only; rw [if_pos h1, if_neg (by rw [h2]; simp)]

section
variable (l r : List UInt8) (c : UInt8) (C K : Nat) (w : World)
    (hi : ∀ w, Calls Tryz.prog 134 #[.string (bs l)] w fun e w' => e = .returned (.tuple #[.int .i64 (C : Int), .int .i64 (K : Int)]) ∧ w = w')
    (h : C ≤ 3) (hr : l.drop K = c :: r) (hc : Lf.bullet c = true)

end

end Go.Proofs.YtmmgfoepfapnkaaGreatDoor

namespace Go.Proofs.YtmmgfoepfapnkaaGreatDoor
open Go.RowKit

theorem headv_form (o : Option (Nat × List UInt8)) : ∃ (n : Nat) (t : List UInt8) (ok : Bool), headv o = .tuple #[.int .i64 (n : Int), .string (bs t), .bool ok] := by
  rcases o with _ | ⟨n, t⟩
  · exact ⟨0, [], false, rfl⟩
  · exact ⟨n, t, true, rfl⟩
theorem quotev_form (o : Option (List UInt8)) : ∃ (t : List UInt8) (ok : Bool), quotev o = .tuple #[.string (bs t), .bool ok] := by
  rcases o with _ | t
  · exact ⟨[], false, rfl⟩
  · exact ⟨t, true, rfl⟩
end Go.Proofs.YtmmgfoepfapnkaaGreatDoor
