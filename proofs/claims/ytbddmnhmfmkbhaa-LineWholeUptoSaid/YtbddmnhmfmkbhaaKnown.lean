/- The closed runs of the chapter. -/
import Derived.Test.YtbddmnhmfmkbhaaSame
import Derived.Lib.SlBytesConst
namespace Go.Proofs.Ytbddmnhmfmkbhaa
open Go.RowKit

theorem kn_lines : Ln.lines [97, 13, 10, 13, 98] 0 = [(0, 1, 3), (3, 3, 4), (4, 5, 5)] := by
  rw [Ln.lines_step (by decide), show Ln.nxt [97, 13, 10, 13, 98] 0 = 3 from by decide, Ln.lines_step (by decide), show Ln.nxt [97, 13, 10, 13, 98] 3 = 4 from by decide, Ln.lines_step (by decide), show Ln.nxt [97, 13, 10, 13, 98] 4 = 5 from by decide, Ln.lines_end (by decide)]
  decide
theorem kn_texts : Ln.texts [97, 13, 10, 13, 98] 0 = [[97], [], [98]] := by rw [Ln.texts, kn_lines]; rfl

set_option maxHeartbeats 1000000 in
theorem known_any (w : World) :
    Calls Try.prog 9 #[] w fun e w' => e = .returned (.bool true) ∧ Below w.heap.size w w' := by
  have kc := fun (w : World) (C : Array Value) (n c : Nat) => Lib.run_convert_bytes_const (P := Try.prog) w 22 5 C n c Try.underlying22 Try.underlying5
  go_enter Try.func9, Try.ntmps9
  go_wp2_with fail
  refine (split_any [97, 13, 10, 13, 98] _ 5 _ (Row.fresh _ _ _ _ rfl rfl) (by decide)).mono ?_
  rintro e w1 ⟨v1, rfl, ho1, hb1⟩
  have hb1 := Lib.hid (ext_trans (ext_alloc _ _) hb1)
  rw [kn_lines] at ho1
  obtain ⟨A1, c1, rfl, hc1⟩ := own_shape ho1
  obtain ⟨b, o, rfl, hbb, hc⟩ := line_cell (Row.own ho1) (by decide)
  obtain ⟨q0', q1', q2'⟩ := hc 0 (by decide)
  obtain ⟨r0', r1', r2'⟩ := hc 2 (by decide)
  have q0 : w1.cell? ⟨b, o, none⟩ = some (.int .i64 0) := by simpa using q0'
  have q1 : w1.cell? ⟨b, o + 1, none⟩ = some (.int .i64 1) := by simpa using q1'
  have q2 : w1.cell? ⟨b, o + 2, none⟩ = some (.int .i64 3) := by simpa using q2'
  have r0 : w1.cell? ⟨b, o + 6, none⟩ = some (.int .i64 4) := by simpa using r0'
  have r1 : w1.cell? ⟨b, o + 7, none⟩ = some (.int .i64 5) := by simpa using r1'
  have r2 : w1.cell? ⟨b, o + 8, none⟩ = some (.int .i64 5) := by simpa using r2'
  clear hc ho1 q0' q1' q2' r0' r1' r2'
  go_wp2_with fail
  refine (texts_any [97, 13, 10, 13, 98] _ 5 _ (Row.fresh _ _ _ _ rfl rfl) (by decide) (by decide)).mono ?_
  rintro e w2 ⟨v2, rfl, ho2, hb2'⟩
  have hb2 := Lib.hid (ext_trans (ext_alloc _ _) hb2')
  rw [kn_texts] at ho2
  obtain ⟨A2, c2, rfl, hc2⟩ := own_shape ho2
  have hT2 := Lib.hid (Row.own ho2)
  clear ho2 hb2' q0 q1 q2 r0 r1 r2
  go_wp2_with fail
  refine (sames_eq [[97], [], [98]] _ _ _ 3 _ (hT2.out.ext (ext_alloc _ _)) (Row.fresh _ _ _ _ rfl rfl) (by decide)).mono ?_
  rintro e w3 ⟨rfl, hb3'⟩
  have hb3 := Lib.hid (ext_trans (ext_alloc _ _) hb3')
  clear hb3'
  go_wp2_with fail
  refine (last_any [97, 13, 10, 98, 10] _ 5 _ (Row.fresh _ _ _ _ rfl rfl) (by decide) (by decide)).mono ?_
  rintro e w4 ⟨rfl, hb4'⟩
  have hb4 := Lib.hid (ext_trans (ext_alloc _ _) hb4')
  rw [show mid ([97, 13, 10, 98, 10] : List UInt8) (Ln.eol [97, 13, 10, 98, 10] 0) (Ln.nxt [97, 13, 10, 98, 10] 0) = [13, 10] from by decide, show bs [13, 10] = ⟨#[13, 10]⟩ from rfl]
  clear hb4'
  go_wp2_with fail
  refine (last_any [] none 0 _ Row.nil (by decide) (by decide)).mono ?_
  rintro e w5 ⟨rfl, hb5⟩
  rw [show mid ([] : List UInt8) (Ln.eol [] 0) (Ln.nxt [] 0) = [] from by decide, show bs [] = ⟨#[]⟩ from rfl]
  go_wp2_with fail
  refine (split_any [] none 0 _ Row.nil (by decide)).mono ?_
  rintro e w6 ⟨v6, rfl, ho6, hb6⟩
  rw [Ln.lines_end (by decide)] at ho6
  obtain ⟨A6, c6, rfl, hc6⟩ := own_shape ho6
  clear ho6
  go_wp2_with fail
  refine (join_any [[97], [98]] [13] _ 2 _ (Row.fresh _ _ _ _ rfl rfl) (by decide) (by decide)).mono ?_
  rintro e w7 ⟨v7, rfl, ho7, hb7'⟩
  have hb7 := Lib.hid (ext_trans (ext_alloc _ _) hb7')
  rw [show Ln.join [[97], [98]] [13] = [97, 13, 98, 13] from by decide] at ho7
  obtain ⟨A7, c7, rfl, hc7⟩ := own_shape ho7
  have hcv := run_text (c := c7) (Row.own ho7) 22 5 9 Try.underlying22 Try.underlying5 Try.underlying9
  rw [show bs [97, 13, 98, 13] = ⟨#[97, 13, 98, 13]⟩ from rfl, show ([97, 13, 98, 13] : List UInt8).length = 4 from rfl] at hcv
  clear ho7 hb7'
  go_wp2
  go_returns
  exact ⟨rfl, ext_trans hb1.out (ext_trans hb2.out (ext_trans hb3.out (ext_trans hb4.out (ext_trans hb5 (ext_trans hb6 hb7.out)))))⟩
end Go.Proofs.Ytbddmnhmfmkbhaa
