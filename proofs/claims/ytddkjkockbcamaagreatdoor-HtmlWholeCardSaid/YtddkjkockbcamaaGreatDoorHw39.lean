/- The tables that the rows list (unicode/utf8, math/bits, internal/strconv): what they give a walk, and a world that holds them. -/
import Derived.Test.YtddkjkockbcamaaGreatDoorCards
import Derived.Test.YtddkjkockbcamaaGreatDoorTie
import Derived.Test.YtddkjkockbcamaaGreatDoorHw28
import Derived.Lay
import Derived.PinnedBridge
import Derived.Lib.LaidU8
import Derived.Deep.DeepHandedRow
namespace Go.Proofs.YtddkjkockbcamaaGreatDoor
open Go.Lib Go.RowKit
def fN : List (String × DataW Unit) := [("math/bits.deBruijn32tab", Rows.laid_math_bits_deBruijn32tab), ("math/bits.deBruijn64tab", Rows.laid_math_bits_deBruijn64tab), ("internal/strconv.uint64pow10", Rows.laid_internal_strconv_uint64pow10), ("unicode/utf8.acceptRanges", Rows.laid_unicode_utf8_acceptRanges), ("unicode/utf8.first", Rows.laid_unicode_utf8_first)]
theorem u8x : U8Extra Tryz.prog Tryz.u7 := ⟨by kernel_rfl, by kernel_rfl, by kernel_rfl, by kernel_rfl, by kernel_rfl, by kernel_rfl, by kernel_rfl⟩
theorem Nt : Rows.laid_unicode_utf8_acceptRanges (H := Unit) = acceptData := by kernel_rfl
theorem Wu {W : World} (hL : laidMetH Tryz.prog fN W) : Tabs W := by
  rw [MakeChecks.laidMetH_plain _ _ _ (by kernel_rfl)] at hL
  have h4 : VarReads Tryz.prog W "unicode/utf8.acceptRanges" acceptData := Nt ▸ laidMet.reads hL (.tail _ (.tail _ (.tail _ (.head _))))
  have h3 : VarReads Tryz.prog W "unicode/utf8.first" firstData := Pinned.utf8First_eq ▸ laidMet.reads hL (.tail _ (.tail _ (.tail _ (.tail _ (.head _)))))
  exact utf8Tabs_of_reads Tryz.UB u8x h3 h4
theorem Tv (os : Os) (args : Array Value) : laidMetH Tryz.prog fN ((World.laidAll Tryz.prog os fN).forCall (fun _ _ => 0) ⟨#[], args, []⟩).memory := by
  rw [MakeChecks.laidMetH_plain _ _ _ (by kernel_rfl)]
  exact laidMet_laidAll _ (by kernel_rfl) (by kernel_rfl)
theorem Fv (os : Os) (args : Array Value) : ((World.laidAll Tryz.prog os fN).forCall (fun _ _ => 0) ⟨#[], args, []⟩).Shaped Tryz.prog :=
  World.shaped_of_ZipB (by kernel_rfl) (by kernel_rfl)
/-- a witness for a row that lists them -/
theorem C8 {H : Type} {enc : TypeId × Value → H} {os : Os} {f : FuncId} {fn : Func} {s : OpenSpec} {conds : List PathCond} {apart : Bool} (args : Array Value)
    (hok : Input.okWideB Tryz.prog ((World.laidAll Tryz.prog os fN).forCall (fun _ _ => 0) ⟨#[], args, []⟩) f ⟨#[], args, []⟩ = true)
    (hrow : s.preRow enc Tryz.prog fn conds apart fN ((World.laidAll Tryz.prog os fN).forCall (fun _ _ => 0) ⟨#[], args, []⟩).memory args) :
    ∃ (w : World) (tape : Tape) (i : Input), w.os = os ∧ (w.forCall tape i).Shaped Tryz.prog ∧ i.vars = [] ∧ Input.okWide Tryz.prog (w.forCall tape i) .any w.heap.size f i ∧
      s.preRow enc Tryz.prog fn conds apart fN (w.forCall tape i).memory i.args ∧ ({} : Assume).holds Tryz.prog (lone (Frame.enter Tryz.prog f i.args .normal) [] (w.forCall tape i)) :=
  ⟨World.laidAll Tryz.prog os fN, fun _ _ => 0, ⟨#[], args, []⟩, World.laidAll_os _ _ _, Fv os args, (Input.okWide_of_okWideB (base := 0) hok).1, (Input.okWide_of_okWideB hok).2, hrow, by
    simp only [Assume.holds]
    exact ⟨by simp, by simp, fun _ => Modest.zero, by simp, by simp⟩⟩
end Go.Proofs.YtddkjkockbcamaaGreatDoor
