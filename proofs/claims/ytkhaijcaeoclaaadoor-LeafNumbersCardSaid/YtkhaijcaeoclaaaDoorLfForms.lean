/- Law 6: the values that the functions of a line give, written out. -/
import Derived.Test.YtkhaijcaeoclaaaDoorLfRef3
namespace Go.Proofs.YtkhaijcaeoclaaaDoor
open Go.RowKit

theorem headv_form (o : Option (Nat × List UInt8)) : ∃ (n : Nat) (t : List UInt8) (ok : Bool), headv o = .tuple #[.int .i64 (n : Int), .string (bs t), .bool ok] := by
  rcases o with _ | ⟨n, t⟩
  · exact ⟨0, [], false, rfl⟩
  · exact ⟨n, t, true, rfl⟩
theorem quotev_form (o : Option (List UInt8)) : ∃ (t : List UInt8) (ok : Bool), quotev o = .tuple #[.string (bs t), .bool ok] := by
  rcases o with _ | t
  · exact ⟨[], false, rfl⟩
  · exact ⟨t, true, rfl⟩
theorem itemv_form (o : Option (UInt8 × Nat × List UInt8)) : ∃ (c : UInt8) (k : Nat) (t : List UInt8) (ok : Bool), itemv o = .tuple #[.int .u8 (c.toNat : Int), .int .i64 (k : Int), .string (bs t), .bool ok] := by
  rcases o with _ | ⟨c, k, t⟩
  · exact ⟨0, 0, [], false, rfl⟩
  · exact ⟨c, k, t, true, rfl⟩

end Go.Proofs.YtkhaijcaeoclaaaDoor
