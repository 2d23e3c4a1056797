/- The document's own runes of a text; runes made a text. -/
import Derived.Test.YtjkmhcolnidflaaRnIter
namespace Go.Proofs.Ytjkmhcolnidflaa
open Go.RowKit

theorem runeEI : EI Try.prog 65 21 1 4 := EI.mk' Try.underlying65 (z := .int .i32 0) (by kernel_rfl) rfl (by omega)

theorem runesBytes_enc (X : List Nat) : runesBytes (X.map fun x : Nat => (x : Int)) = bs (Ru.enc X) := by
  have : ∀ (X : List Nat) (s : List UInt8), (X.map fun x : Nat => (x : Int)).foldl (fun r n => r ++ Utf8.encode n) (bs s) = bs (s ++ Ru.enc X) := by
    intro X
    induction X with
    | nil => intro s; simp [Ru.enc_nil]
    | cons x X ih =>
      intro s
      have he : Utf8.encode (x : Int) = bs (Lib.encodeRune (x : Int)) := Ru.encode_eq _
      rw [List.map_cons, List.foldl_cons, he, bs_append, ih, Ru.enc_cons, List.append_assoc]
  exact this X []

/-- runes made a text -/
theorem run_runes {P : Program} {w : World} {B n c : Nat} {A : Option Addr} {X : List Nat} (h : Row w B 1 A n (rcells X)) (src e dst : TypeId) (hs : P.underlying src = some (.slice e)) (he : P.underlying e = some (.int .i32)) (hd : P.underlying dst = some .string) :
    (convert src dst (.slice A n c)).run P w = .ok (.string (bs (Ru.enc X))) w := by
  have hn : X.length = n := by have := h.1; simpa [rcells] using this
  rcases A with _ | ad
  · have h0 : n = 0 := by
      rcases Nat.eq_zero_or_pos n with h0 | h0
      · exact h0
      · obtain ⟨b, o, e, _⟩ := h.2 h0; cases e
    subst h0
    have : X = [] := List.eq_nil_of_length_eq_zero hn
    subst this
    rw [run_convert_runes_nil w src dst e 0 c hs he hd]
    rfl
  · rw [run_convert_runes w src dst e ad n c (X.map fun x : Nat => (x : Int)) (by simp; omega) hs he hd ?_]
    · rw [List.take_of_length_le (by simp; omega), runesBytes_enc]
    · intro j hj
      have hj' : j < X.length := by simpa using hj
      obtain ⟨b, o, ha, _, hc⟩ := h.2 (by omega)
      cases ha
      have := hc j (.int .i32 (X[j] : Int)) (by simp [rcells, List.getElem?_eq_getElem hj'])
      have ea : (⟨b, o, none⟩ : Addr).add j = ⟨b, o + j, none⟩ := by unfold Addr.add; split <;> simp_all
      rw [ea, this]
      simp [List.getD, List.getElem?_eq_getElem hj']
end Go.Proofs.Ytjkmhcolnidflaa
