/- Plain mathematics of single lines: eight lines, a few columns deep, and four. No program is spoken of here. -/
import Derived.Test.YtkhaijcaeoclaaaDoorLfOne
import Derived.KernelRfl
namespace Go.Proofs.YtkhaijcaeoclaaaDoor

def Lf.eight : List (List UInt8) := [[120], [35, 32, 97], [45, 45, 45], [62, 32, 98], [45, 32, 99], [42, 42, 42], [42, 32, 100], [35, 35]]
/-- as deep as it may be it is what it is -/
def Lf.near (i : Nat) (s : List UInt8) : Bool :=
  decide (Lf.heading (List.replicate i 32 ++ s) = Lf.heading s) && decide (Lf.quote (List.replicate i 32 ++ s) = Lf.quote s) && decide (Lf.brk (List.replicate i 32 ++ s) = Lf.brk s) &&
    decide (Lf.item (List.replicate i 32 ++ s) = (Lf.item s).map fun x => (x.1, x.2.1 + i, x.2.2))
/-- deeper it is none of them -/
def Lf.far (s : List UInt8) : Bool :=
  decide (Lf.heading ([32, 32, 32, 32] ++ s) = none) && decide (Lf.quote ([9] ++ s) = none) && decide (Lf.item ([32, 32, 32, 32] ++ s) = none) && decide (Lf.brk ([32, 32, 9] ++ s) = false)
theorem Lf.deep_all : (Lf.eight.all fun s => Lf.far s && Lf.near 0 s && Lf.near 1 s && Lf.near 2 s && Lf.near 3 s) = true := by kernel_rfl
theorem Lf.deep_facts {i : Nat} {s : List UInt8} (hi : i ≤ 3) (hs : s ∈ Lf.eight) :
    (Lf.heading (List.replicate i 32 ++ s) = Lf.heading s ∧ Lf.quote (List.replicate i 32 ++ s) = Lf.quote s ∧ Lf.brk (List.replicate i 32 ++ s) = Lf.brk s ∧ Lf.item (List.replicate i 32 ++ s) = (Lf.item s).map fun x => (x.1, x.2.1 + i, x.2.2)) ∧
    Lf.heading ([32, 32, 32, 32] ++ s) = none ∧ Lf.quote ([9] ++ s) = none ∧ Lf.item ([32, 32, 32, 32] ++ s) = none ∧ Lf.brk ([32, 32, 9] ++ s) = false := by
  have h := List.all_eq_true.1 Lf.deep_all s hs
  simp only [Bool.and_eq_true] at h
  obtain ⟨⟨⟨⟨hf, h0⟩, h1⟩, h2⟩, h3⟩ := h
  have hn : Lf.near i s = true := by
    rcases (show i = 0 ∨ i = 1 ∨ i = 2 ∨ i = 3 from by omega) with rfl | rfl | rfl | rfl
    · exact h0
    · exact h1
    · exact h2
    · exact h3
  unfold Lf.near at hn
  unfold Lf.far at hf
  simp only [Bool.and_eq_true, decide_eq_true_eq] at hn hf
  exact ⟨⟨hn.1.1.1, hn.1.1.2, hn.1.2, hn.2⟩, hf.1.1.1, hf.1.1.2, hf.1.2, hf.2⟩
theorem Lf.eight_len {s : List UInt8} (hs : s ∈ Lf.eight) : s.length ≤ 3 := by
  have : ∀ s ∈ Lf.eight, s.length ≤ 3 := by decide
  exact this s hs
end Go.Proofs.YtkhaijcaeoclaaaDoor
