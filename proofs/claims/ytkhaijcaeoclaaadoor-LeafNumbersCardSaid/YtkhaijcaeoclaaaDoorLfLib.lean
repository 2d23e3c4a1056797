/- Go's library, where package leaf calls it, in my words: TrimRight at signs and at blanks, IndexByte. -/
import Derived.Test.YtkhaijcaeoclaaaDoorFnLib
import Derived.Test.YtkhaijcaeoclaaaDoorLfRef
namespace Go.Proofs.YtkhaijcaeoclaaaDoor
open Go.RowKit

theorem hash_drop (r : List UInt8) : (r.dropWhile ([(35 : UInt8)].contains ·)).reverse = Lf.unhash r.reverse := by
  induction r with
  | nil => rfl
  | cons b r ih =>
    rw [List.dropWhile_cons, List.reverse_cons]
    by_cases h : b = 35
    · subst h
      rw [if_pos (by simp), ih, Lf.unhash_snoc_sign]
    · rw [if_neg (by simp [h]), Lf.unhash_snoc_word _ h, List.reverse_cons]
theorem trimHash_eq (l : List UInt8) : Lib.trimRightS l [35] = Lf.unhash l := by
  unfold Lib.trimRightS
  rw [hash_drop, List.reverse_reverse]

theorem trimHash_any (l : List UInt8) (w : World) (hl : l.length ≤ 140737488355328) :
    Calls Tryd.prog 35 #[.string (bs l), .string ⟨#[35]⟩] w fun e w' => e = .returned (.string (bs (Lf.unhash l))) ∧ Below w.heap.size w w' := by
  have h := Any.strings_TrimRight_laid Tryd.lays162 (by kernel_rfl) (bs l) ⟨#[35]⟩ w (by rw [bs_size]; omega) (by decide) (ascii_of_all (by decide))
  change Calls Tryd.prog 35 _ _ (fun e w' => e = .returned (.string (bs (Lib.trimRightS l [35]))) ∧ Below w.heap.size w w') at h
  rwa [trimHash_eq] at h

theorem trimBack_any (l : List UInt8) (w : World) (hl : l.length ≤ 140737488355328) :
    Calls Tryd.prog 35 #[.string (bs l), .string ⟨#[32, 9]⟩] w fun e w' => e = .returned (.string (bs (Fn.back l))) ∧ Below w.heap.size w w' := by
  have h := Any.strings_TrimRight_laid Tryd.lays162 (by kernel_rfl) (bs l) ⟨#[32, 9]⟩ w (by rw [bs_size]; omega) (by decide) (ascii_of_all (by decide))
  change Calls Tryd.prog 35 _ _ (fun e w' => e = .returned (.string (bs (Lib.trimRightS l [32, 9]))) ∧ Below w.heap.size w w') at h
  rwa [trimRight_eq] at h

theorem byte_back (b : UInt8) : ((b.toNat : Int)).toNat.toUInt8 = b := by
  rw [show ((b.toNat : Int)).toNat = b.toNat from by omega]
  simp
theorem indexByte_any (S : List UInt8) (b : UInt8) (w : World) :
    Calls Tryd.prog 44 #[.string (bs S), .int .u8 (b.toNat : Int)] w fun e w' => e = .returned (.int .i64 (Lib.indexByte S b)) ∧ w' = w := by
  have h := Tryd.strings_IndexByte (bs S) (b.toNat : Int) w
  rw [byte_back] at h
  exact h
theorem index_tests (S : List UInt8) (b : UInt8) : decide ((0 : Int) ≤ Lib.indexByte S b) = S.contains b := (Lib.contains_iff_indexByte S b).symm

end Go.Proofs.YtkhaijcaeoclaaaDoor
