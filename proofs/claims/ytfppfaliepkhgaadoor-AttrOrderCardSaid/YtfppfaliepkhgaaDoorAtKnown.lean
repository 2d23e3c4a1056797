/- Law 5's 'known': the runs that chapter 5 shows. -/
import Derived.Test.YtfppfaliepkhgaaDoorAtKnownM
import Derived.BigQuiet
namespace Go.Proofs.YtfppfaliepkhgaaDoor
open Go.RowKit

set_option maxHeartbeats 8000000 in
set_option maxRecDepth 100000 in
theorem known_fn (w : World) (hT : Tabs w) :
    Calls Tryd.prog 9 #[] w fun e w' => e = .returned (.bool true) ∧ Below w.heap.size w w' := by
  replace hT := Lib.hid hT
  have r1 := fun w h => pread_any [103, 111, 32, 110, 97, 109, 101, 61, 34, 97, 32, 98, 34, 32, 99, 111, 109, 109, 101, 110, 116, 61, 47, 47, 32, 97, 112, 112, 101, 110, 100] w (by decide) h
  rw [kn_read1] at r1
  change ∀ w, Tabs w → Calls Tryd.prog 12 #[.string ⟨#[103, 111, 32, 110, 97, 109, 101, 61, 34, 97, 32, 98, 34, 32, 99, 111, 109, 109, 101, 110, 116, 61, 47, 47, 32, 97, 112, 112, 101, 110, 100]⟩] w (fun e w' => e = .returned (.tuple #[.agg #[.string ⟨#[103, 111]⟩, .string ⟨#[97, 32, 98]⟩, .string ⟨#[]⟩, .string ⟨#[47, 47]⟩, .bool true, .bool false], .bool true]) ∧ Below w.heap.size w w') at r1
  have r2 := fun w h => pread_any [103, 111, 32, 110, 97, 109, 101, 61, 97, 32, 110, 97, 109, 101, 61, 98] w (by decide) h
  rw [kn_read2] at r2
  change ∀ w, Tabs w → Calls Tryd.prog 12 #[.string ⟨#[103, 111, 32, 110, 97, 109, 101, 61, 97, 32, 110, 97, 109, 101, 61, 98]⟩] w (fun e w' => e = .returned (.tuple #[.agg #[.string ⟨#[]⟩, .string ⟨#[]⟩, .string ⟨#[]⟩, .string ⟨#[]⟩, .bool false, .bool false], .bool false]) ∧ Below w.heap.size w w') at r2
  have r3 := fun w h => pread_any [103, 111, 32, 110, 111, 109, 101, 61, 97] w (by decide) h
  rw [kn_read3] at r3
  change ∀ w, Tabs w → Calls Tryd.prog 12 #[.string ⟨#[103, 111, 32, 110, 111, 109, 101, 61, 97]⟩] w (fun e w' => e = .returned (.tuple #[.agg #[.string ⟨#[]⟩, .string ⟨#[]⟩, .string ⟨#[]⟩, .string ⟨#[]⟩, .bool false, .bool false], .bool false]) ∧ Below w.heap.size w w') at r3
  have r4 := fun w => ppairs_any [103, 111, 32, 120, 61, 49, 32, 110, 111, 108, 105, 110, 101] w (by decide)
  rw [kn_pairs] at r4
  change ∀ w, Calls Tryd.prog 16 #[.string ⟨#[103, 111, 32, 120, 61, 49, 32, 110, 111, 108, 105, 110, 101]⟩] w (fun e w' => (∃ v, e = .returned (.tuple #[.string ⟨#[103, 111]⟩, v, .bool true]) ∧ w'.ownsRow w.heap.size 44 2 v 2 #[.string ⟨#[120]⟩, .iface 9 (.string ⟨#[49]⟩), .string ⟨#[110, 111, 108, 105, 110, 101]⟩, .iface 4 (.bool true)].toList) ∧ Below w.heap.size w w') at r4
  have x1 := fun w => text_text [116] w (by decide)
  change ∀ w, Calls Tryd.prog 18 #[.iface 9 (.string ⟨#[116]⟩)] w (fun e w' => e = .returned (.tuple #[.string ⟨#[116]⟩, .bool true]) ∧ Below w.heap.size w w') at x1
  have x2 := text_flag
  have x3 := fun w => text_text [49] w (by decide)
  change ∀ w, Calls Tryd.prog 18 #[.iface 9 (.string ⟨#[49]⟩)] w (fun e w' => e = .returned (.tuple #[.string ⟨#[49]⟩, .bool true]) ∧ Below w.heap.size w w') at x3
  have x4 := fun w => must_text [113] w (by decide)
  change ∀ w, Calls Tryd.prog 19 #[.iface 9 (.string ⟨#[113]⟩)] w (fun e w' => e = .returned (.string ⟨#[113]⟩) ∧ Below w.heap.size w w') at x4
  have y1 := fun w h => pwrite_any ⟨[103, 111], [97, 32, 98], [], [47, 47], true, false⟩ w (by unfold At.fits; decide) h
  rw [kn_write] at y1
  change ∀ w, Tabs w → Calls Tryd.prog 10 #[.agg #[.string ⟨#[103, 111]⟩, .string ⟨#[97, 32, 98]⟩, .string ⟨#[]⟩, .string ⟨#[47, 47]⟩, .bool true, .bool false]] w (fun e w' => e = .returned (.string ⟨#[103, 111, 32, 110, 97, 109, 101, 61, 34, 97, 32, 98, 34, 32, 99, 111, 109, 109, 101, 110, 116, 61, 47, 47, 32, 97, 112, 112, 101, 110, 100]⟩) ∧ Below w.heap.size w w') at y1
  have y2 := fun w h => pwrite_any ⟨[], [97], [98], [], false, false⟩ w (by unfold At.fits; decide) h
  rw [kn_none] at y2
  change ∀ w, Tabs w → Calls Tryd.prog 10 #[.agg #[.string ⟨#[]⟩, .string ⟨#[97]⟩, .string ⟨#[98]⟩, .string ⟨#[]⟩, .bool false, .bool false]] w (fun e w' => e = .returned (.string ⟨#[]⟩) ∧ Below w.heap.size w w') at y2
  have n1 := fun w h => pname_any [97, 32, 98] w (by decide) h
  rw [kn_name1] at n1
  change ∀ w, Tabs w → Calls Tryd.prog 14 #[.string ⟨#[97, 32, 98]⟩] w (fun e w' => e = .returned (.bool true) ∧ Below w.heap.size w w') at n1
  have n2 := fun w h => pname_any [32, 97] w (by decide) h
  rw [kn_name2] at n2
  change ∀ w, Tabs w → Calls Tryd.prog 14 #[.string ⟨#[32, 97]⟩] w (fun e w' => e = .returned (.bool false) ∧ Below w.heap.size w w') at n2
  have n3 := fun w h => pname_any [97, 35] w (by decide) h
  rw [kn_name3] at n3
  change ∀ w, Tabs w → Calls Tryd.prog 14 #[.string ⟨#[97, 35]⟩] w (fun e w' => e = .returned (.bool false) ∧ Below w.heap.size w w') at n3
  have m1 := run_flag
  have m2 := run_textv [116]
  change ∀ w, (Instr.makeInterface 9 (.string ⟨#[116]⟩)).run Tryd.prog w = .ok (.iface 9 (.string ⟨#[116]⟩)) w at m2
  have m3 := run_textv [113]
  change ∀ w, (Instr.makeInterface 9 (.string ⟨#[113]⟩)).run Tryd.prog w = .ok (.iface 9 (.string ⟨#[113]⟩)) w at m3
  go_enter Tryd.func9, Tryd.ntmps9
  go_wp2_with fail
  refine (r1 _ hT.out).mono ?_
  rintro e w1 ⟨rfl, hb1⟩
  have hB1 := Lib.hid (ext_trans hb1 (ext_alloc w1 (.cells #[.string ⟨#[103, 111]⟩, .string ⟨#[97, 32, 98]⟩, .string ⟨#[]⟩, .string ⟨#[47, 47]⟩, .bool true, .bool false] 27)))
  have hq1 := Lib.hid (heap_alloc_new w1 (.cells #[.string ⟨#[103, 111]⟩, .string ⟨#[97, 32, 98]⟩, .string ⟨#[]⟩, .string ⟨#[47, 47]⟩, .bool true, .bool false] 27))
  clear r1
  go_wp2_with fail
  refine (r2 _ (tabs_ext hT.out hB1.out)).mono ?_
  rintro e w2 ⟨rfl, hb2⟩
  have hq2 := Lib.hid (keep (keep hq1.out hb2).1 (ext_alloc w2 (.cells #[.string ⟨#[]⟩, .string ⟨#[]⟩, .string ⟨#[]⟩, .string ⟨#[]⟩, .bool false, .bool false] 27))).1
  have hB2 := Lib.hid (ext_trans hB1.out (ext_trans hb2 (ext_alloc w2 (.cells #[.string ⟨#[]⟩, .string ⟨#[]⟩, .string ⟨#[]⟩, .string ⟨#[]⟩, .bool false, .bool false] 27))))
  clear r2 hb2 hq1 hB1
  go_wp2_with fail
  refine (r3 _ (tabs_ext hT.out hB2.out)).mono ?_
  rintro e w3 ⟨rfl, hb3⟩
  have hq3 := Lib.hid (keep (keep hq2.out hb3).1 (ext_alloc w3 (.cells #[.string ⟨#[]⟩, .string ⟨#[]⟩, .string ⟨#[]⟩, .string ⟨#[]⟩, .bool false, .bool false] 27))).1
  have hB3 := Lib.hid (ext_trans hB2.out (ext_trans hb3 (ext_alloc w3 (.cells #[.string ⟨#[]⟩, .string ⟨#[]⟩, .string ⟨#[]⟩, .string ⟨#[]⟩, .bool false, .bool false] 27))))
  clear r3 hb3 hq2 hB2
  go_wp2_with fail
  refine (r4 _).mono ?_
  rintro e w4 ⟨⟨v4, rfl, hown⟩, hb4⟩
  obtain ⟨A, c, rfl, hlc⟩ := own_shape hown
  have hR := Row.own hown
  obtain ⟨bb, oo, rfl, hbb, hc⟩ := hR.2 (by decide)
  have c0 := hc 0 _ rfl
  have c1 := hc 1 _ rfl
  have c2 := hc 2 _ rfl
  have c3 := hc 3 _ rfl
  have hq4 := Lib.hid (keep hq3.out hb4).1
  have hB4 := Lib.hid (ext_trans hB3.out hb4)
  clear r4 hb4 hq3 hB3 hc hR hown
  go_wp2_with fail
  refine (x1 _).mono ?_
  rintro e w5 ⟨rfl, hb5⟩
  go_wp2_with fail
  refine (x2 _).mono ?_
  rintro e w6 ⟨rfl, hb6⟩
  have hb46 := ext_trans hb5 hb6
  have c0' := (hb46.cell (p := ⟨bb, oo + 0, none⟩) hbb).trans c0
  have c1' := (hb46.cell (p := ⟨bb, oo + 1, none⟩) hbb).trans c1
  have c2' := (hb46.cell (p := ⟨bb, oo + 2, none⟩) hbb).trans c2
  have c3' := (hb46.cell (p := ⟨bb, oo + 3, none⟩) hbb).trans c3
  have hbb6 : bb < w6.heap.size := Nat.lt_of_lt_of_le hbb hb46.size
  have hq6 := Lib.hid (keep hq4.out hb46).1
  have hB6 := Lib.hid (ext_trans hB4.out hb46)
  clear x1 hb5 hb6 hq4 hB4 c0 c1 c2 c3 hb46 hbb
  simp only [Nat.add_zero] at c0'
  go_wp2_with fail
  refine (x3 _).mono ?_
  rintro e w7 ⟨rfl, hb7⟩
  have d2 := (hb7.cell (p := ⟨bb, oo + 2, none⟩) hbb6).trans c2'
  have d3 := (hb7.cell (p := ⟨bb, oo + 3, none⟩) hbb6).trans c3'
  have d0 := (hb7.cell (p := ⟨bb, oo, none⟩) hbb6).trans c0'
  have hbb7 : bb < w7.heap.size := Nat.lt_of_lt_of_le hbb6 hb7.size
  have hq7 := Lib.hid (keep hq6.out hb7).1
  have hB7 := Lib.hid (ext_trans hB6.out hb7)
  clear x3 hb7 hq6 hB6 c0' c1' c2' c3' hbb6
  go_wp2_with fail
  refine (x2 _).mono ?_
  rintro e w8 ⟨rfl, hb8⟩
  have f2 := (hb8.cell (p := ⟨bb, oo + 2, none⟩) hbb7).trans d2
  have f0 := (hb8.cell (p := ⟨bb, oo, none⟩) hbb7).trans d0
  have hbb8 : bb < w8.heap.size := Nat.lt_of_lt_of_le hbb7 hb8.size
  have hq8 := Lib.hid (keep hq7.out hb8).1
  have hB8 := Lib.hid (ext_trans hB7.out hb8)
  obtain ⟨y0, y1', y2', y3, y4, y5⟩ := six hq8.out
  clear x2 hb8 hq7 hB7 d0 d2 d3 hbb7
  go_wp2_with fail
  refine (x4 _).mono ?_
  rintro e w9 ⟨rfl, hb9⟩
  have hq9 := Lib.hid (keep hq8.out hb9).1
  have hB9 := Lib.hid (ext_trans hB8.out hb9)
  clear x4 hb9 hq8 hB8 y0 y1' y2' y3 y4 y5 f0 f2
  obtain ⟨y0, y1', y2', y3, y4, y5⟩ := six hq9.out
  go_wp2_with fail
  refine (y1 _ (tabs_ext hT.out hB9.out)).mono ?_
  rintro e w10 ⟨rfl, hb10⟩
  have hB10 := Lib.hid (ext_trans hB9.out hb10)
  clear y1 hb10 hq9 hB9 y0 y1' y2' y3 y4 y5
  go_wp2_with fail
  refine (n1 _ (tabs_ext hT.out hB10.out)).mono ?_
  rintro e w11 ⟨rfl, hb11⟩
  have hB11 := Lib.hid (ext_trans hB10.out hb11)
  clear n1 hb11 hB10
  go_wp2_with fail
  refine (n2 _ (tabs_ext hT.out hB11.out)).mono ?_
  rintro e w12 ⟨rfl, hb12⟩
  have hB12 := Lib.hid (ext_trans hB11.out hb12)
  clear n2 hb12 hB11
  go_wp2_with fail
  refine (n3 _ (tabs_ext hT.out hB12.out)).mono ?_
  rintro e w13 ⟨rfl, hb13⟩
  have hB13 := Lib.hid (ext_trans hB12.out hb13)
  clear n3 hb13 hB12
  go_wp2_with fail
  refine (y2 _ (tabs_ext hT.out hB13.out)).mono ?_
  rintro e w14 ⟨rfl, hb14⟩
  have hB14 := Lib.hid (ext_trans hB13.out hb14)
  clear y2 hb14 hB13
  go_wp2_with fail
  go_ret
  exact ⟨rfl, hB14.out⟩
end Go.Proofs.YtfppfaliepkhgaaDoor
