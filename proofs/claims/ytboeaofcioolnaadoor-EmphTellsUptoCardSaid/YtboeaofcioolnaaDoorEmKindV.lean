/- The document's own judging of a run: its answer as a value. -/
import Derived.Test.YtboeaofcioolnaaDoorEmMem
namespace Go.Proofs.YtboeaofcioolnaaDoor
open Go.RowKit

def kindV : Option (Em.R × Nat) → Value
  | none => .tuple #[.agg #[.int .u8 0, .int .i64 0, .bool false, .bool false], .int .i64 0, .bool false]
  | some x => .tuple #[aval x.1, .int .i64 (x.2 : Int), .bool true]
theorem seven (xx yy PA PB : Bool) : (xx = false ∧ yy = false) ∨ (xx = false ∧ yy = true) ∨ (xx = true ∧ yy = false) ∨ (xx = true ∧ yy = true ∧ PA = false ∧ PB = false) ∨ (xx = true ∧ yy = true ∧ PA = false ∧ PB = true) ∨ (xx = true ∧ yy = true ∧ PA = true ∧ PB = false) ∨ (xx = true ∧ yy = true ∧ PA = true ∧ PB = true) := by
  cases xx <;> cases yy <;> cases PA <;> cases PB <;> simp
end Go.Proofs.YtboeaofcioolnaaDoor
