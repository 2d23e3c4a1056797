/- The closed runs of the chapter. -/
import Derived.Test.YtcdpecpjhoejnaaDoorFnRBegins
import Derived.Test.YtcdpecpjhoejnaaDoorFnEnds
import Derived.Test.YtcdpecpjhoejnaaDoorFnLong
namespace Go.Proofs.YtcdpecpjhoejnaaDoor
open Go.RowKit

theorem begins_at (l : List UInt8) (s : ByteArray) (o : Option Fn.Op) (v : Value) (hs : bs l = s) (h : Fn.begins l = o) (hv : begv o = v) (hl : l.length ≤ 140737488355328) (w : World) :
    Calls Tryd.prog 14 #[.string s] w fun e w' => e = .returned v ∧ Below w.heap.size w w' := by
  subst hs h hv; exact begins_any l w hl
theorem ends_at (c : UInt8) (n i : Int) (t : ByteArray) (l : List UInt8) (s : ByteArray) (b : Bool) (v : Value) (hs : bs l = s) (h : Fn.ends c n l = b) (hv : fv c n i t = v) (hl : l.length ≤ 140737488355328) (w : World) :
    Calls Tryd.prog 11 #[v, .string s] w fun e w' => e = .returned (.bool b) ∧ Below w.heap.size w w' := by
  subst hs h hv; exact ends_any c n i t l w hl

theorem long_at (ls : List (List UInt8)) (A : Option Addr) (n c : Nat) (v : Value) (w : World) (h : Row w w.heap.size 1 A ls.length (scells ls)) (hlen : ls.length = n) (hv : Value.int .i64 (Fn.long ls : Nat) = v) (hn : ls.length ≤ 140737488355328) (hl : ∀ s ∈ ls, s.length ≤ 140737488355328) :
    Calls Tryd.prog 13 #[.slice A n c] w fun e w' => e = .returned v ∧ w = w' := by
  subst hlen hv; exact long_any ls A c w h hn hl

theorem keep {w w1 : World} {g : Nat} {o : Obj} (h : w.heap[g]? = some o) (hb : Below w.heap.size w w1) : w1.heap[g]? = some o ∧ g < w1.heap.size := by
  have hg : g < w.heap.size := (Array.getElem?_eq_some_iff.1 h).1
  have h1 := hb.block g hg
  have hs := hb.size
  exact ⟨h1.trans h, by omega⟩
theorem four {w1 : World} {g : Nat} {a b c d : Value} {t : TypeId} {fr : Nat × Nat} (h : w1.heap[g]? = some (.cells #[a, b, c, d] t fr)) :
    w1.cell? ⟨g, 0, none⟩ = some a ∧ w1.cell? ⟨g, 1, none⟩ = some b ∧ w1.cell? ⟨g, 2, none⟩ = some c ∧ w1.cell? ⟨g, 3, none⟩ = some d :=
  ⟨blk_cell h 0, blk_cell h 1, blk_cell h 2, blk_cell h 3⟩

set_option maxHeartbeats 4000000 in
set_option maxRecDepth 100000 in
theorem known_any (w : World) :
    Calls Tryd.prog 10 #[] w fun e w' => e = .returned (.bool true) ∧ Below w.heap.size w w' := by
  have q1 := begins_at [32, 32, 126, 126, 126, 126, 32, 97, 32, 98, 32] ⟨#[32, 32, 126, 126, 126, 126, 32, 97, 32, 98, 32]⟩ (some ⟨126, 4, 2, [97, 32, 98]⟩) (.tuple #[.agg #[.int .u8 126, .int .i64 4, .int .i64 2, .string ⟨#[97, 32, 98]⟩], .bool true]) rfl (by kernel_rfl) rfl (by decide)
  have q2 := begins_at [96, 96] ⟨#[96, 96]⟩ none (.tuple #[.agg #[.int .u8 0, .int .i64 0, .int .i64 0, .string ⟨#[]⟩], .bool false]) rfl (by kernel_rfl) rfl (by decide)
  have q3 := begins_at [96, 96, 96, 32, 97, 96] ⟨#[96, 96, 96, 32, 97, 96]⟩ none (.tuple #[.agg #[.int .u8 0, .int .i64 0, .int .i64 0, .string ⟨#[]⟩], .bool false]) rfl (by kernel_rfl) rfl (by decide)
  have q4 := begins_at [96, 96, 96] ⟨#[96, 96, 96]⟩ (some ⟨96, 3, 0, []⟩) (.tuple #[.agg #[.int .u8 96, .int .i64 3, .int .i64 0, .string ⟨#[]⟩], .bool true]) rfl (by kernel_rfl) rfl (by decide)
  have e1 := ends_at 96 3 0 ⟨#[]⟩ [96, 96, 96, 96, 32] ⟨#[96, 96, 96, 96, 32]⟩ true (.agg #[.int .u8 96, .int .i64 3, .int .i64 0, .string ⟨#[]⟩]) rfl (by kernel_rfl) rfl (by decide)
  have e2 := ends_at 96 3 0 ⟨#[]⟩ [96, 96] ⟨#[96, 96]⟩ false (.agg #[.int .u8 96, .int .i64 3, .int .i64 0, .string ⟨#[]⟩]) rfl (by kernel_rfl) rfl (by decide)
  have e3 := ends_at 96 3 0 ⟨#[]⟩ [96, 96, 96, 32, 97] ⟨#[96, 96, 96, 32, 97]⟩ false (.agg #[.int .u8 96, .int .i64 3, .int .i64 0, .string ⟨#[]⟩]) rfl (by kernel_rfl) rfl (by decide)
  have e4 := ends_at 126 4 2 ⟨#[97, 32, 98]⟩ [126, 126, 126] ⟨#[126, 126, 126]⟩ false (.agg #[.int .u8 126, .int .i64 4, .int .i64 2, .string ⟨#[97, 32, 98]⟩]) rfl (by kernel_rfl) rfl (by decide)
  have e5 := ends_at 0 0 0 ⟨#[]⟩ [] ⟨#[]⟩ false (.agg #[.int .u8 0, .int .i64 0, .int .i64 0, .string ⟨#[]⟩]) rfl (by kernel_rfl) rfl (by decide)
  go_enter Tryd.func10, Tryd.ntmps10
  go_wp2_with fail
  refine (q1 _).mono ?_
  rintro e w1 ⟨rfl, hb1⟩
  replace hb1 := Lib.hid hb1
  go_wp2_with fail
  refine (q2 _).mono ?_
  rintro e w2 ⟨rfl, hb2⟩
  have f2 := Lib.hid (blk hb2)
  replace hb2 := Lib.hid (ext_trans hb1.out (ext_trans (ext_alloc _ _) hb2))
  go_wp2_with fail
  refine (q3 _).mono ?_
  rintro e w3 ⟨rfl, hb3⟩
  have f3 := Lib.hid (keep f2.out (ext_trans (ext_alloc _ _) hb3)).1
  replace hb3 := Lib.hid (ext_trans hb2.out (ext_trans (ext_alloc _ _) hb3))
  go_wp2_with fail
  refine (q4 _).mono ?_
  rintro e w4 ⟨rfl, hb4⟩
  have f4 := Lib.hid (keep f3.out (ext_trans (ext_alloc _ _) hb4)).1
  have g4 := (keep f3.out (ext_trans (ext_alloc _ _) hb4)).2
  replace hb4 := Lib.hid (ext_trans hb3.out (ext_trans (ext_alloc _ _) hb4))
  obtain ⟨a0, a1, a2, a3⟩ := four f4.out
  go_wp2_with fail
  refine (e1 _).mono ?_
  rintro e w5 ⟨rfl, hb5⟩
  clear a0 a1 a2 a3
  have p5 := Lib.hid (blk hb5)
  have f5 := Lib.hid (keep f4.out (ext_trans (ext_alloc _ _) hb5)).1
  replace hb5 := Lib.hid (ext_trans hb4.out (ext_trans (ext_alloc _ _) hb5))
  obtain ⟨b0, b1, b2, b3⟩ := four p5.out
  go_wp2_with fail
  refine (e2 _).mono ?_
  rintro e w6 ⟨rfl, hb6⟩
  clear b0 b1 b2 b3
  have p6 := Lib.hid (keep p5.out hb6).1
  have f6 := Lib.hid (keep f5.out hb6).1
  replace hb6 := Lib.hid (ext_trans hb5.out hb6)
  obtain ⟨b0, b1, b2, b3⟩ := four p6.out
  go_wp2_with fail
  refine (e3 _).mono ?_
  rintro e w7 ⟨rfl, hb7⟩
  clear b0 b1 b2 b3
  have f7 := Lib.hid (keep f6.out hb7).1
  replace hb7 := Lib.hid (ext_trans hb6.out hb7)
  obtain ⟨b0, b1, b2, b3⟩ := four f7.out
  go_wp2_with fail
  refine (e4 _).mono ?_
  rintro e w8 ⟨rfl, hb8⟩
  clear b0 b1 b2 b3
  replace hb8 := Lib.hid (ext_trans hb7.out hb8)
  go_wp2_with fail
  refine (long_at [[97, 96, 96, 96, 96, 98]] _ 1 _ (.int .i64 5) _ (Row.fresh _ _ _ _ rfl rfl) rfl (by kernel_rfl) (by decide) (by decide)).mono ?_
  rintro e w9 ⟨rfl, rfl⟩
  go_wp2_with fail
  refine (long_at [] _ 0 _ (.int .i64 3) _ Row.nil rfl (by kernel_rfl) (by decide) (by decide)).mono ?_
  rintro e w9 ⟨rfl, rfl⟩
  go_wp2_with fail
  refine (e5 _).mono ?_
  rintro e w9 ⟨rfl, hb9⟩
  replace hb9 := Lib.hid (ext_trans hb8.out (ext_trans (ext_alloc _ _) hb9))
  go_wp2
  go_ret
  exact ⟨rfl, hb9.out⟩
end Go.Proofs.YtcdpecpjhoejnaaDoor
