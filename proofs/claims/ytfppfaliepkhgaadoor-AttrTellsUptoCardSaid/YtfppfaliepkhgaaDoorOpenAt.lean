/- An argument of type api.Attr opened: what an info says, as four texts and two flags. -/
import Derived.Test.YtfppfaliepkhgaaDoorOpen
import Derived.Test.YtfppfaliepkhgaaDoorAtReadMath
import Derived.ChangeArms
import Derived.WideShapes
namespace Go.Proofs.YtfppfaliepkhgaaDoor
open Go.ChangeShapes Go.WideShapes Go.ChangeAt Go.RowKit

theorem array6 {α : Type} {cs : Array α} (h : cs.size = 6) : ∃ c0 c1 c2 c3 c4 c5, cs = #[c0, c1, c2, c3, c4, c5] := by
  obtain ⟨l⟩ := cs
  match l, h with
  | [c0, c1, c2, c3, c4, c5], _ => exact ⟨c0, c1, c2, c3, c4, c5, rfl⟩
theorem list6 {α : Type} {l : List α} (h : l.length = 6) : ∃ c0 c1 c2 c3 c4 c5, l = [c0, c1, c2, c3, c4, c5] := by
  match l, h with
  | [c0, c1, c2, c3, c4, c5], _ => exact ⟨c0, c1, c2, c3, c4, c5, rfl⟩
theorem one_cell {a b : Value} (h : [a] = [b]) : a = b := by injection h

section
variable {H : Type} {enc : TypeId × Value → H} {W : World}
set_option maxRecDepth 100000 in
set_option maxHeartbeats 1000000 in
theorem open_attr {r : Reach} {b0 : Nat} {v : Value} {d : DataW H} {p : List MemPlace} {fs : Array Field} (hs : Tryd.prog.underlying 27 = some (.struct fs)) (hfs : fs.size = 6)
    (hty : ∃ f0 f1 f2 f3 f4 f5 : Field, fs = #[f0, f1, f2, f3, f4, f5] ∧ (f0.type = 9 ∧ f0.offset = 0) ∧ (f1.type = 9 ∧ f1.offset = 1) ∧ (f2.type = 9 ∧ f2.offset = 2) ∧ (f3.type = 9 ∧ f3.offset = 3) ∧ (f4.type = 4 ∧ f4.offset = 4) ∧ (f5.type = 4 ∧ f5.offset = 5))
    (hval : Value.okWide Tryd.prog W r b0 27 v) (h : DataW.Trod enc Tryd.prog W 0 (fun _ => true) true 27 v d p) :
    ∃ a : At.Attr, v = .agg (acells a) ∧ p = [] ∧ a.lang.length + a.name.length + a.file.length + a.style.length + 4 ≤ Rows.uptoBulk d := by
  obtain ⟨cs, rfl, hsz⟩ := okWide_struct hs hval
  obtain ⟨c0, c1, c2, c3, c4, c5, rfl⟩ := array6 (hsz.trans (by kernel_rfl))
  obtain ⟨fuel, hf⟩ := h
  obtain ⟨xs, n, _, hx, _, hlen, hg⟩ := DataW.trod_struct hs hf
  obtain ⟨y0, y1, y2, y3, y4, y5, rfl⟩ := list6 (hlen.trans hfs)
  obtain ⟨f0, f1, f2, f3, f4, f5, rfl, ⟨t0, o0⟩, ⟨t1, o1⟩, ⟨t2, o2⟩, ⟨t3, o3⟩, ⟨t4, o4⟩, ⟨t5, o5⟩⟩ := hty
  have ks : Tryd.prog.cellsOf 9 = 1 := by kernel_rfl
  have kb : Tryd.prog.cellsOf 4 = 1 := by kernel_rfl
  have g0 := hg 0 f0 rfl
  have g1 := hg 1 f1 rfl
  have g2 := hg 2 f2 rfl
  have g3 := hg 3 f3 rfl
  have g4 := hg 4 f4 rfl
  have g5 := hg 5 f5 rfl
  simp only [t0, t1, t2, t3, t4, t5, o0, o1, o2, o3, o4, o5, ks, kb, Value.cells] at g0 g1 g2 g3 g4 g5
  obtain ⟨s0, e0, x0, _⟩ := DataW.trod_string Tryd.underlying9 g0
  obtain ⟨s1, e1, x1, _⟩ := DataW.trod_string Tryd.underlying9 g1
  obtain ⟨s2, e2, x2, _⟩ := DataW.trod_string Tryd.underlying9 g2
  obtain ⟨s3, e3, x3, _⟩ := DataW.trod_string Tryd.underlying9 g3
  obtain ⟨s4, e4, x4⟩ := DataW.trod_bool Tryd.underlying4 g4
  obtain ⟨s5, e5, x5⟩ := DataW.trod_bool Tryd.underlying4 g5
  obtain rfl : c0 = .string s0 := one_cell e0
  obtain rfl : c1 = .string s1 := one_cell e1
  obtain rfl : c2 = .string s2 := one_cell e2
  obtain rfl : c3 = .string s3 := one_cell e3
  obtain rfl : c4 = .bool s4 := one_cell e4
  obtain rfl : c5 = .bool s5 := one_cell e5
  subst x0 x1 x2 x3 x4 x5
  simp only [Prod.mk.injEq] at hx
  obtain ⟨rfl, rfl⟩ := hx
  refine ⟨⟨s0.data.toList, s1.data.toList, s2.data.toList, s3.data.toList, s4, s5⟩, ?_, by simp, ?_⟩
  · unfold acells
    simp only [← text_of]
  · simp [Rows.uptoBulk, Rows.uptoBulkAll]
    omega
end
end Go.Proofs.YtfppfaliepkhgaaDoor
