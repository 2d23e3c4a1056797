/- Package link: one contract for each function. -/
import Derived.Test.YtjkmhcolnidflaaLkPDest
import Derived.Test.YtjkmhcolnidflaaLkPSafe
namespace Go.Proofs.Ytjkmhcolnidflaa
open Go.RowKit

theorem spanV_three (o : Option (List UInt8 × Nat)) : ∃ (x : List UInt8) (n : Nat) (b : Bool), spanV o = .tuple #[.string (bs x), .int .i64 (n : Int), .bool b] := by
  cases o with
  | none => exact ⟨[], 0, false, rfl⟩
  | some r => exact ⟨r.1, r.2, true, rfl⟩
theorem placeV_two (o : Option Nat) : ∃ (n : Nat) (b : Bool), placeV o = .tuple #[.int .i64 (n : Int), .bool b] := by
  cases o with
  | none => exact ⟨0, false, rfl⟩
  | some r => exact ⟨r, true, rfl⟩
end Go.Proofs.Ytjkmhcolnidflaa
