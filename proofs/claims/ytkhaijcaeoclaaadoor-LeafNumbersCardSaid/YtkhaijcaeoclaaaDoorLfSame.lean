/- Law 6's 'same' and 'known': package leaf and the document's own answers say the same of a line; the runs that chapter 6 shows. -/
import Derived.Test.YtkhaijcaeoclaaaDoorLfProg
namespace Go.Proofs.YtkhaijcaeoclaaaDoor
open Go.RowKit

set_option maxHeartbeats 4000000 in
set_option maxRecDepth 100000 in
theorem same_any (l : List UInt8) (w : World) (hl : l.length + 100 ≤ 140737488355328) :
    Calls Tryd.prog 8 #[.string (bs l)] w fun e w' => e = .returned (.bool true) ∧ Below w.heap.size w w' := by
  have p1 := fun w => phead_any l w hl
  have r1 := fun w => rhead_any l w (by omega)
  have p2 := fun w => pquote_any l w hl
  have r2 := fun w => rquote_any l w (by omega)
  have p3 := fun w => pitem_any l w hl
  have r3 := fun w => ritem_any l w (by omega)
  have p4 := fun w => pbrk_any l w hl
  have r4 := fun w => rbrk_any l w (by omega)
  obtain ⟨n, t, ok, hv⟩ := headv_form (Lf.heading l)
  rw [hv] at p1 r1
  obtain ⟨t2, ok2, hv2⟩ := quotev_form (Lf.quote l)
  rw [hv2] at p2 r2
  obtain ⟨c3, k3, t3, ok3, hv3⟩ := itemv_form (Lf.item l)
  rw [hv3] at p3 r3
  obtain ⟨B, hB⟩ : ∃ B, Lf.brk l = B := ⟨_, rfl⟩
  rw [hB] at p4 r4
  clear hv hv2 hv3 hB
  go_enter Tryd.func8, Tryd.ntmps8
  go_wp2_with fail
  refine (p1 _).mono ?_
  rintro e w1 ⟨rfl, hb1⟩
  go_wp2_with fail
  refine (r1 _).mono ?_
  rintro e w2 ⟨rfl, rfl⟩
  go_wp2_with fail
  refine (p2 _).mono ?_
  rintro e w2 ⟨rfl, hb2⟩
  have hB2 := Lib.hid (ext_trans hb1 hb2)
  clear hb1 hb2
  go_wp2_with fail
  refine (r2 _).mono ?_
  rintro e w3 ⟨rfl, rfl⟩
  go_wp2_with fail
  refine (p3 _).mono ?_
  rintro e w3 ⟨rfl, hb3⟩
  have hB3 := Lib.hid (ext_trans hB2.out hb3)
  clear hb3 hB2
  go_wp2_with fail
  refine (r3 _).mono ?_
  rintro e w4 ⟨rfl, hb4⟩
  have hB4 := Lib.hid (ext_trans hB3.out hb4)
  clear hb4 hB3 p1 r1 p2 r2 p3 r3
  go_wp2_with fail
  refine (p4 _).mono ?_
  rintro e w5 ⟨rfl, hb5⟩
  have hB5 := Lib.hid (ext_trans hB4.out hb5)
  clear hb5 hB4
  go_wp2_with fail
  refine (r4 _).mono ?_
  rintro e w6 ⟨rfl, hb6⟩
  have hB6 := Lib.hid (ext_trans hB5.out hb6)
  go_wp2_with fail
  go_returns
  exact ⟨rfl, hB6.out⟩
end Go.Proofs.YtkhaijcaeoclaaaDoor
