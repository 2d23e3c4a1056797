/- The library's Trim, Contains and Clone in my words; a fence as a value; a fresh fence's block. -/
import Derived.Test.YtcdpecpjhoejnaaDoorFnFns
import Derived.Test.YtcdpecpjhoejnaaDoorShelf
import Derived.Lib.IndexAny
import Derived.Laws.ResultCell
namespace Go.Proofs.YtcdpecpjhoejnaaDoor
open Go.RowKit

theorem isGap_in (b : UInt8) : [(32 : UInt8), 9].contains b = Cl.isGap b := by
  simp only [Cl.isGap, List.contains, List.elem]
  cases b == 32 <;> cases b == 9 <;> rfl
theorem trimLeft_eq (l : List UInt8) : Lib.trimLeftS l [32, 9] = Fn.front l := by
  unfold Lib.trimLeftS
  induction l with
  | nil => rfl
  | cons b r ih =>
    rw [List.dropWhile_cons, isGap_in]
    cases hb : Cl.isGap b with
    | true => rw [if_pos rfl, ih, Fn.front_gap _ hb]
    | false => rw [if_neg (by simp), Fn.front_word _ hb]
theorem trimRight_eq (l : List UInt8) : Lib.trimRightS l [32, 9] = Fn.back l := by
  unfold Lib.trimRightS
  induction l with
  | nil => rfl
  | cons b r ih =>
    rw [List.reverse_cons, List.dropWhile_append]
    cases hr : Fn.back r with
    | nil =>
      rw [hr] at ih
      have h0 : r.reverse.dropWhile ([(32 : UInt8), 9].contains ·) = [] := by
        have := congrArg List.reverse ih
        simpa using this
      rw [h0]
      simp only [List.isEmpty_nil, if_true, List.dropWhile_cons, List.dropWhile_nil, isGap_in]
      cases hb : Cl.isGap b with
      | true => rw [Fn.back_gap hr hb]; rfl
      | false => rw [Fn.back_word _ hb, hr]; rfl
    | cons x y =>
      rw [hr] at ih
      have h0 : (r.reverse.dropWhile ([(32 : UInt8), 9].contains ·)).isEmpty = false := by
        cases hq : r.reverse.dropWhile ([(32 : UInt8), 9].contains ·) with
        | nil => rw [hq] at ih; cases ih
        | cons _ _ => rfl
      rw [h0, Fn.back_more (by rw [hr]; simp), hr, ← ih]
      simp
theorem trimS_eq (l : List UInt8) : Lib.trimS l [32, 9] = Fn.trim l := by
  unfold Lib.trimS
  rw [trimLeft_eq, trimRight_eq, Fn.front_back]; rfl

theorem trim_any (l : List UInt8) (w : World) (hl : l.length ≤ 140737488355328) :
    Calls Tryd.prog 24 #[.string (bs l), .string ⟨#[32, 9]⟩] w fun e w' => e = .returned (.string (bs (Fn.trim l))) ∧ Below w.heap.size w w' := by
  have h := Any.strings_Trim_laid Tryd.lays160 (by kernel_rfl) (bs l) ⟨#[32, 9]⟩ w (by rw [bs_size]; omega) (by decide) (ascii_of_all (by decide))
  change Calls Tryd.prog 24 _ _ (fun e w' => e = .returned (.string (bs (Lib.trimS l [32, 9]))) ∧ Below w.heap.size w w') at h
  rwa [trimS_eq] at h

theorem contains_any (l : List UInt8) (c : UInt8) (w : World) :
    Calls Tryd.prog 25 #[.string (bs l), .string ⟨#[c]⟩] w fun e w' => e = .returned (.bool (decide (c ∈ l))) ∧ w' = w := by
  have h := Tryd.strings_Contains_one (bs l) c w
  rwa [show decide (0 ≤ Lib.indexByte (bs l).data.toList c) = decide (c ∈ l) from by rw [← Lib.contains_iff_indexByte]; simp [bs]] at h

set_option maxHeartbeats 1000000 in
theorem clone_any (l : List UInt8) (w : World) (hl : l.length ≤ 140737488355328) :
    Calls Tryd.prog 26 #[.string (bs l)] w fun e w' => e = .returned (.string (bs l)) ∧ Below w.heap.size w w' := by
  go_enter Tryd.func26, Tryd.ntmps26
  go_wp2_with (go_at_call 41; refine (Tryd.stringslite_Clone (bs l) _ (by rw [bs_size]; omega)).mono ?_; rintro e w' ⟨rfl, hb⟩)
  go_ret
  exact ⟨rfl, hb⟩

/-- a fence as a value -/
def opv (o : Fn.Op) : Value := .agg #[.int .u8 (o.c.toNat : Int), .int .i64 (o.n : Int), .int .i64 (o.ind : Int), .string (bs o.info)]
def nov : Value := .agg #[.int .u8 0, .int .i64 0, .int .i64 0, .string ⟨#[]⟩]
def begv : Option Fn.Op → Value
  | none => .tuple #[nov, .bool false]
  | some o => .tuple #[opv o, .bool true]

theorem text_nil : (bs []).toList.isEmpty = true := by rw [bs_toList]; rfl
theorem text_cons (c : UInt8) (r : List UInt8) : (bs (c :: r)).toList.isEmpty = false := by rw [bs_toList]; rfl

/-- a new block, behind what has left it alone -/
theorem blk {w w1 : World} {o : Obj} (hb : Below (w.alloc o).heap.size (w.alloc o) w1) : w1.heap[w.heap.size]? = some o :=
  (hb.block _ (by simp)).trans (heap_alloc_new w o)
theorem blk_cell {w1 : World} {g : Nat} {cs : Array Value} {t : TypeId} {fr : Nat × Nat} (h : w1.heap[g]? = some (.cells cs t fr)) (j : Nat) : w1.cell? ⟨g, j, none⟩ = cs[j]? := by
  simp [World.cell?, h]
theorem blk_free {w1 : World} {g : Nat} {cs : Array Value} {t : TypeId} (h : w1.heap[g]? = some (.cells cs t (0, 0))) (j : Nat) : w1.frozen? ⟨g, j, none⟩ = false := by
  simp [World.frozen?, h]
/-- what a store into a fresh fence wants to know -/
theorem blk_open {w w1 : World} {a b c d : Value} {t : TypeId} (hb : Below (w.alloc (.cells #[a, b, c, d] t)).heap.size (w.alloc (.cells #[a, b, c, d] t)) w1) :
    w1.cell? ⟨w.heap.size, 0, none⟩ = some a ∧ w1.cell? ⟨w.heap.size, 1, none⟩ = some b ∧ w1.cell? ⟨w.heap.size, 2, none⟩ = some c ∧ w1.cell? ⟨w.heap.size, 3, none⟩ = some d ∧
    ∀ j, w1.frozen? ⟨w.heap.size, j, none⟩ = false := by
  have h := blk hb
  exact ⟨blk_cell h 0, blk_cell h 1, blk_cell h 2, blk_cell h 3, blk_free h⟩

theorem blk_done {w w1 : World} {o : Obj} (hb : Below (w.alloc o).heap.size (w.alloc o) w1) (a b c d : Value) :
    Below w.heap.size w ((((w1.setCell ⟨w.heap.size, 0, none⟩ a).setCell ⟨w.heap.size, 1, none⟩ b).setCell ⟨w.heap.size, 2, none⟩ c).setCell ⟨w.heap.size, 3, none⟩ d) :=
  (((((ext_alloc w o).trans (hb.mono (by simp))).setCell (Nat.le_refl _) _).setCell (Nat.le_refl _) _).setCell (Nat.le_refl _) _).setCell (Nat.le_refl _) _
end Go.Proofs.YtcdpecpjhoejnaaDoor
