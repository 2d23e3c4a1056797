/- The library's Trim, Contains and Clone in my words; a fence as a value; a fresh fence's block. -/
import Derived.Test.YtkhaijcaeoclaaaDoorFnFns
import Derived.Test.YtkhaijcaeoclaaaDoorBlk
import Derived.Test.YtkhaijcaeoclaaaDoorShelf
import Derived.Lib.IndexAny
import Derived.Laws.ResultCell
namespace Go.Proofs.YtkhaijcaeoclaaaDoor
open Go.RowKit

theorem isGap_in (b : UInt8) : [(32 : UInt8), 9].contains b = Cl.isGap b := by
  simp only [Cl.isGap, List.contains, List.elem]
  cases b == 32 <;> cases b == 9 <;> rfl
theorem trimLeft_eq (l : List UInt8) : Lib.trimLeftS l [32, 9] = Fn.front l := by
  unfold Lib.trimLeftS
  induction l with
  | nil => rfl
  | cons b r ih =>
    rw [List.dropWhile_cons, isGap_in]
    cases hb : Cl.isGap b with
    | true => rw [if_pos rfl, ih, Fn.front_gap _ hb]
    | false => rw [if_neg (by simp), Fn.front_word _ hb]
theorem trimRight_eq (l : List UInt8) : Lib.trimRightS l [32, 9] = Fn.back l := by
  unfold Lib.trimRightS
  induction l with
  | nil => rfl
  | cons b r ih =>
    rw [List.reverse_cons, List.dropWhile_append]
    cases hr : Fn.back r with
    | nil =>
      rw [hr] at ih
      have h0 : r.reverse.dropWhile ([(32 : UInt8), 9].contains ·) = [] := by
        have := congrArg List.reverse ih
        simpa using this
      rw [h0]
      simp only [List.isEmpty_nil, if_true, List.dropWhile_cons, List.dropWhile_nil, isGap_in]
      cases hb : Cl.isGap b with
      | true => rw [Fn.back_gap hr hb]; rfl
      | false => rw [Fn.back_word _ hb, hr]; rfl
    | cons x y =>
      rw [hr] at ih
      have h0 : (r.reverse.dropWhile ([(32 : UInt8), 9].contains ·)).isEmpty = false := by
        cases hq : r.reverse.dropWhile ([(32 : UInt8), 9].contains ·) with
        | nil => rw [hq] at ih; cases ih
        | cons _ _ => rfl
      rw [h0, Fn.back_more (by rw [hr]; simp), hr, ← ih]
      simp
theorem trimS_eq (l : List UInt8) : Lib.trimS l [32, 9] = Fn.trim l := by
  unfold Lib.trimS
  rw [trimLeft_eq, trimRight_eq, Fn.front_back]; rfl

theorem trim_any (l : List UInt8) (w : World) (hl : l.length ≤ 140737488355328) :
    Calls Tryd.prog 23 #[.string (bs l), .string ⟨#[32, 9]⟩] w fun e w' => e = .returned (.string (bs (Fn.trim l))) ∧ Below w.heap.size w w' := by
  have h := Any.strings_Trim_laid Tryd.lays160 (by kernel_rfl) (bs l) ⟨#[32, 9]⟩ w (by rw [bs_size]; omega) (by decide) (ascii_of_all (by decide))
  change Calls Tryd.prog 23 _ _ (fun e w' => e = .returned (.string (bs (Lib.trimS l [32, 9]))) ∧ Below w.heap.size w w') at h
  rwa [trimS_eq] at h

set_option maxHeartbeats 1000000 in
theorem clone_any (l : List UInt8) (w : World) (hl : l.length ≤ 140737488355328) :
    Calls Tryd.prog 24 #[.string (bs l)] w fun e w' => e = .returned (.string (bs l)) ∧ Below w.heap.size w w' := by
  go_enter Tryd.func24, Tryd.ntmps24
  go_wp2_with (go_at_call 43; refine (Tryd.stringslite_Clone (bs l) _ (by rw [bs_size]; omega)).mono ?_; rintro e w' ⟨rfl, hb⟩)
  go_ret
  exact ⟨rfl, hb⟩

/-- a fence as a value -/
def opv (o : Fn.Op) : Value := .agg #[.int .u8 (o.c.toNat : Int), .int .i64 (o.n : Int), .int .i64 (o.ind : Int), .string (bs o.info)]
def nov : Value := .agg #[.int .u8 0, .int .i64 0, .int .i64 0, .string ⟨#[]⟩]
def begv : Option Fn.Op → Value
  | none => .tuple #[nov, .bool false]
  | some o => .tuple #[opv o, .bool true]

end Go.Proofs.YtkhaijcaeoclaaaDoor
