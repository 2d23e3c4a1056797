/- Small things of the machine that the laws of signs meet: a byte's cell, three bits of a byte, a rune made a text. -/
import Derived.Test.YtfhpijeadchnnaaEsSame
namespace Go.Proofs.Ytfhpijeadchnnaa
open Go.RowKit

theorem kcell {l : List UInt8} {w : World} {B : Nat} {A : Option Addr} (h : Row w B 1 A l.length (bcells l)) (hn : 0 < l.length) :
    ∃ b o, A = some ⟨b, o, none⟩ ∧ b < B ∧ ∀ k, (hk : k < l.length) → w.cell? ⟨b, o + k, none⟩ = some (.int .u8 (l[k].toNat : Int)) := by
  obtain ⟨b, o, e, hb, hc⟩ := h.at1 hn
  exact ⟨b, o, e, hb, fun k hk => by rw [hc k hk]; simp [bcells, bv]⟩

theorem eight (b : UInt8) : bits .and .u8 (b.toNat : Int) 7 = 0 ∨ bits .and .u8 (b.toNat : Int) 7 = 1 ∨ bits .and .u8 (b.toNat : Int) 7 = 2 ∨ bits .and .u8 (b.toNat : Int) 7 = 3 ∨
    bits .and .u8 (b.toNat : Int) 7 = 4 ∨ bits .and .u8 (b.toNat : Int) 7 = 5 ∨ bits .and .u8 (b.toNat : Int) 7 = 6 ∨ bits .and .u8 (b.toNat : Int) 7 = 7 := by
  have hb : b.toNat < 256 := b.toNat_lt
  have h : bits .and .u8 (b.toNat : Int) ((7 : Nat) : Int) = ((b.toNat &&& 7 : Nat) : Int) := u8_and_nat _ _ hb (by omega)
  rw [show ((7 : Nat) : Int) = 7 from rfl] at h
  have h3 : b.toNat &&& 7 = b.toNat % 8 := Nat.and_two_pow_sub_one_eq_mod b.toNat 3
  rw [h, h3]; omega

theorem runeText (r : Int) (w : World) : (convert 21 9 (.int .i32 r)).run Try.prog w = .ok (.string (bs (Lib.encodeRune r))) w := by
  rw [run_convert_int_string w 21 9 .i32 r (by kernel_rfl) Try.underlying9, Ru.encode_eq]
  rfl

/-- a text, and one of the eight signs behind it -/
theorem lit_cat (t X : List UInt8) (s : ByteArray) (h : s = bs X) : bs t ++ s = bs (t ++ X) := by rw [h, bs_append]
end Go.Proofs.Ytfhpijeadchnnaa
