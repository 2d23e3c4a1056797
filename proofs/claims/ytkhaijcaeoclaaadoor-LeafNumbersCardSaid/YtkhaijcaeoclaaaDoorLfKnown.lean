/- Law 6's 'known': the runs that chapter 6 shows. -/
import Derived.Test.YtkhaijcaeoclaaaDoorLfProg
namespace Go.Proofs.YtkhaijcaeoclaaaDoor
open Go.RowKit

set_option maxHeartbeats 4000000 in
set_option maxRecDepth 100000 in
theorem known_fn (w : World) : Calls Tryd.prog 10 #[] w fun e w' => e = .returned (.bool true) ∧ Below w.heap.size w w' := by
  have r0 := fun w => phead_any [32, 35, 35, 32, 97, 32, 98, 32, 35, 35, 32, 32] w (by decide)
  rw [show Lf.heading [32, 35, 35, 32, 97, 32, 98, 32, 35, 35, 32, 32] = some (2, [97, 32, 98]) from by kernel_rfl] at r0
  change ∀ w, Calls Tryd.prog 11 #[.string ⟨#[32, 35, 35, 32, 97, 32, 98, 32, 35, 35, 32, 32]⟩] w (fun e w' => e = .returned (.tuple #[.int .i64 2, .string ⟨#[97, 32, 98]⟩, .bool true]) ∧ Below w.heap.size w w') at r0
  have r1 := fun w => phead_any [35, 32, 35] w (by decide)
  rw [show Lf.heading [35, 32, 35] = some (1, []) from by kernel_rfl] at r1
  change ∀ w, Calls Tryd.prog 11 #[.string ⟨#[35, 32, 35]⟩] w (fun e w' => e = .returned (.tuple #[.int .i64 1, .string ⟨#[]⟩, .bool true]) ∧ Below w.heap.size w w') at r1
  have r2 := fun w => phead_any [35, 97] w (by decide)
  rw [show Lf.heading [35, 97] = none from by kernel_rfl] at r2
  change ∀ w, Calls Tryd.prog 11 #[.string ⟨#[35, 97]⟩] w (fun e w' => e = .returned (.tuple #[.int .i64 0, .string ⟨#[]⟩, .bool false]) ∧ Below w.heap.size w w') at r2
  have r3 := fun w => pquote_any [62, 32, 9, 97] w (by decide)
  rw [show Lf.quote [62, 32, 9, 97] = some [9, 97] from by kernel_rfl] at r3
  change ∀ w, Calls Tryd.prog 13 #[.string ⟨#[62, 32, 9, 97]⟩] w (fun e w' => e = .returned (.tuple #[.string ⟨#[9, 97]⟩, .bool true]) ∧ Below w.heap.size w w') at r3
  have r4 := fun w => pitem_any [32, 45, 32, 32, 32, 97] w (by decide)
  rw [show Lf.item [32, 45, 32, 32, 32, 97] = some (45, 5, [97]) from by kernel_rfl] at r4
  change ∀ w, Calls Tryd.prog 14 #[.string ⟨#[32, 45, 32, 32, 32, 97]⟩] w (fun e w' => e = .returned (.tuple #[.int .u8 45, .int .i64 5, .string ⟨#[97]⟩, .bool true]) ∧ Below w.heap.size w w') at r4
  have r5 := fun w => pitem_any [45] w (by decide)
  rw [show Lf.item [45] = some (45, 2, []) from by kernel_rfl] at r5
  change ∀ w, Calls Tryd.prog 14 #[.string ⟨#[45]⟩] w (fun e w' => e = .returned (.tuple #[.int .u8 45, .int .i64 2, .string ⟨#[]⟩, .bool true]) ∧ Below w.heap.size w w') at r5
  have r6 := fun w => pitem_any [45, 97] w (by decide)
  rw [show Lf.item [45, 97] = none from by kernel_rfl] at r6
  change ∀ w, Calls Tryd.prog 14 #[.string ⟨#[45, 97]⟩] w (fun e w' => e = .returned (.tuple #[.int .u8 0, .int .i64 0, .string ⟨#[]⟩, .bool false]) ∧ Below w.heap.size w w') at r6
  have r7 := fun w => pitem_any [45, 32, 45, 32, 45] w (by decide)
  rw [show Lf.item [45, 32, 45, 32, 45] = none from by kernel_rfl] at r7
  change ∀ w, Calls Tryd.prog 14 #[.string ⟨#[45, 32, 45, 32, 45]⟩] w (fun e w' => e = .returned (.tuple #[.int .u8 0, .int .i64 0, .string ⟨#[]⟩, .bool false]) ∧ Below w.heap.size w w') at r7
  have r8 := fun w => pbrk_any [45, 32, 45, 32, 32, 45] w (by decide)
  rw [show Lf.brk [45, 32, 45, 32, 32, 45] = true from by kernel_rfl] at r8
  change ∀ w, Calls Tryd.prog 12 #[.string ⟨#[45, 32, 45, 32, 32, 45]⟩] w (fun e w' => e = .returned (.bool true) ∧ Below w.heap.size w w') at r8
  have r9 := fun w => pbrk_any [45, 32, 45] w (by decide)
  rw [show Lf.brk [45, 32, 45] = false from by kernel_rfl] at r9
  change ∀ w, Calls Tryd.prog 12 #[.string ⟨#[45, 32, 45]⟩] w (fun e w' => e = .returned (.bool false) ∧ Below w.heap.size w w') at r9
  go_enter Tryd.func10, Tryd.ntmps10
  go_wp2_with fail
  refine (r0 _).mono ?_
  rintro e w1 ⟨rfl, hb1⟩
  have hB1 := Lib.hid hb1
  clear hb1 r0
  go_wp2_with fail
  refine (r1 _).mono ?_
  rintro e w2 ⟨rfl, hb2⟩
  have hB2 := Lib.hid (ext_trans hB1.out hb2)
  clear hb2 r1 hB1
  go_wp2_with fail
  refine (r2 _).mono ?_
  rintro e w3 ⟨rfl, hb3⟩
  have hB3 := Lib.hid (ext_trans hB2.out hb3)
  clear hb3 r2 hB2
  go_wp2_with fail
  refine (r3 _).mono ?_
  rintro e w4 ⟨rfl, hb4⟩
  have hB4 := Lib.hid (ext_trans hB3.out hb4)
  clear hb4 r3 hB3
  go_wp2_with fail
  refine (r4 _).mono ?_
  rintro e w5 ⟨rfl, hb5⟩
  have hB5 := Lib.hid (ext_trans hB4.out hb5)
  clear hb5 r4 hB4
  go_wp2_with fail
  refine (r5 _).mono ?_
  rintro e w6 ⟨rfl, hb6⟩
  have hB6 := Lib.hid (ext_trans hB5.out hb6)
  clear hb6 r5 hB5
  go_wp2_with fail
  refine (r6 _).mono ?_
  rintro e w7 ⟨rfl, hb7⟩
  have hB7 := Lib.hid (ext_trans hB6.out hb7)
  clear hb7 r6 hB6
  go_wp2_with fail
  refine (r7 _).mono ?_
  rintro e w8 ⟨rfl, hb8⟩
  have hB8 := Lib.hid (ext_trans hB7.out hb8)
  clear hb8 r7 hB7
  go_wp2_with fail
  refine (r8 _).mono ?_
  rintro e w9 ⟨rfl, hb9⟩
  have hB9 := Lib.hid (ext_trans hB8.out hb9)
  clear hb9 r8 hB8
  go_wp2_with fail
  refine (r9 _).mono ?_
  rintro e w10 ⟨rfl, hb10⟩
  have hB10 := Lib.hid (ext_trans hB9.out hb10)
  clear hb10 r9 hB9
  go_wp2_with fail
  go_returns
  exact ⟨rfl, hB10.out⟩
end Go.Proofs.YtkhaijcaeoclaaaDoor
