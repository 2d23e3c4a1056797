/- The document's own answer of chapter 5: words, texts in quotes. The document's own answer of chapter 5: texts in quotes, texts that need none. The document's own answer of chapter 5: texts that need no quotes. The document's own answer of chapter 5: names. The document's own answer of chapter 5: styles, values. -/
import Derived.Test.YtmmgfoepfapnkaaGreatDoorQ02
import Derived.Test.YtmmgfoepfapnkaaGreatDoorQ12
import Derived.Deep.CutBlock
import Derived.Deep.QuietTactic
import Derived.BigQuiet
namespace Go.Proofs.YtmmgfoepfapnkaaGreatDoor
open Go.RowKit

end Go.Proofs.YtmmgfoepfapnkaaGreatDoor

namespace Go.Proofs.YtmmgfoepfapnkaaGreatDoor
open Go.RowKit

end Go.Proofs.YtmmgfoepfapnkaaGreatDoor

namespace Go.Proofs.YtmmgfoepfapnkaaGreatDoor
open Go.RowKit

theorem at_ret_bool {a b : Bool} (h : a = b) : Ending.returned (.bool a) = .returned (.bool b) := by rw [h]

/-- what a range hands over at a place, and the rest -/
theorem bare_split (x : Nat) : (At.blank x = true ∧ At.okRune x = false) ∨ (At.blank x = false ∧ ((x : Int) == 34) = true ∧ At.okRune x = false) ∨ (At.blank x = false ∧ ((x : Int) == 34) = false ∧ ((x : Int) == 61) = true ∧ At.okRune x = false) ∨
    (At.blank x = false ∧ ((x : Int) == 34) = false ∧ ((x : Int) == 61) = false ∧ ((x : Int) == 92) = true ∧ At.okRune x = false) ∨ (At.blank x = false ∧ ((x : Int) == 34) = false ∧ ((x : Int) == 61) = false ∧ ((x : Int) == 92) = false ∧ At.okRune x = true) := by
  have c : ∀ n : Nat, ((x : Int) == (n : Int)) = decide (x = n) := fun n => by rw [Bool.eq_iff_iff]; simp; omega
  have c1 := c 34
  have c2 := c 61
  have c3 := c 92
  rw [show ((34 : Nat) : Int) = 34 from rfl] at c1
  rw [show ((61 : Nat) : Int) = 61 from rfl] at c2
  rw [show ((92 : Nat) : Int) = 92 from rfl] at c3
  rw [c1, c2, c3]
  unfold At.okRune
  cases At.blank x <;> cases decide (x = 34) <;> cases decide (x = 61) <;> cases decide (x = 92) <;> simp

end Go.Proofs.YtmmgfoepfapnkaaGreatDoor

namespace Go.Proofs.YtmmgfoepfapnkaaGreatDoor
open Go.RowKit

def At.sharp : List UInt8 := [60, 62, 91, 93, 35, 34, 92]
def At.nameRune (x : Nat) : Bool := !(decide (x < 32) || (decide (x < 128) && decide (UInt8.ofNat x ∈ At.sharp)))
def At.name (l : List UInt8) : Bool := decide (1 ≤ l.length ∧ l.length ≤ 60) && decide (Ru.enc (Ru.runes l) = l) && !At.blank ((Ru.runes l).headD 0) && !At.blank ((Ru.runes l).getLastD 0) && (Ru.runes l).all At.nameRune

end Go.Proofs.YtmmgfoepfapnkaaGreatDoor

namespace Go.Proofs.YtmmgfoepfapnkaaGreatDoor
open Go.RowKit

def At.print (b : UInt8) : Bool := decide (33 ≤ b.toNat ∧ b.toNat ≤ 126)
def At.style (l : List UInt8) : Bool := l.all At.print && decide (1 ≤ l.length ∧ l.length ≤ 4)
theorem print_tests (b : UInt8) : (decide ((b.toNat : Int) < 33) = true ∧ At.print b = false) ∨ (decide ((b.toNat : Int) < 33) = false ∧ decide ((126 : Int) < (b.toNat : Int)) = true ∧ At.print b = false) ∨ (decide ((b.toNat : Int) < 33) = false ∧ decide ((126 : Int) < (b.toNat : Int)) = false ∧ At.print b = true) := by
  unfold At.print
  by_cases h : b.toNat < 33
  · exact .inl ⟨by simp; omega, by simp; omega⟩
  · by_cases h' : 126 < b.toNat
    · exact .inr (.inl ⟨by simp; omega, by simp; omega, by simp; omega⟩)
    · exact .inr (.inr ⟨by simp; omega, by simp; omega, by simp; omega⟩)

end Go.Proofs.YtmmgfoepfapnkaaGreatDoor
