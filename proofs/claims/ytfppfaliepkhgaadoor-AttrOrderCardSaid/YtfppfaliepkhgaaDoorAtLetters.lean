/- Plain mathematics of infos: a word of small letters is a name, and needs no quotes. No program is spoken of here. -/
import Derived.Test.YtfppfaliepkhgaaDoorAtTok
import Derived.Test.YtfppfaliepkhgaaDoorAtName
namespace Go.Proofs.YtfppfaliepkhgaaDoor.At
open Go.Lib Go.RowKit

theorem letter_low {b : UInt8} (h : letter b = true) : 97 ≤ b.toNat ∧ b.toNat ≤ 122 := by unfold letter at h; simpa using h
theorem enc_letter {x : Nat} (h : x < 128) : encodeRune (x : Int) = [UInt8.ofNat x] := by
  rw [encodeRune, encodeRuneZ_one (by omega) (by omega)]
  simp
theorem enc_letters {l : List UInt8} (h : ∀ b ∈ l, letter b = true) : Ru.enc (l.map (·.toNat)) = l := by
  induction l with
  | nil => rfl
  | cons b r ih =>
    have hb := letter_low (h b (.head _))
    rw [List.map_cons, Ru.enc_cons, enc_letter (show b.toNat < 128 by omega), ih fun c hc => h c (.tail _ hc)]
    simp
theorem runes_letters {l : List UInt8} (h : ∀ b ∈ l, letter b = true) : Ru.runes l = l.map (·.toNat) := by
  have h2 := Ru.runes_enc_app (l.map (·.toNat)) (fun x hx => by
    obtain ⟨b, hb, rfl⟩ := List.mem_map.1 hx
    have := letter_low (h b hb)
    unfold Ru.vr; omega) []
  rw [enc_letters h] at h2
  simpa [Ru.runes_nil] using h2
theorem bare_letters {l : List UInt8} (h0 : l ≠ []) (h : ∀ b ∈ l, letter b = true) : bare l = true := by
  unfold bare
  rw [runes_letters h, Bool.and_eq_true, List.all_eq_true]
  refine ⟨fun x hx => ?_, by simpa using h0⟩
  obtain ⟨b, hb, rfl⟩ := List.mem_map.1 hx
  have := letter_low (h b hb)
  unfold okRune blank
  simp; omega
theorem name_letters {l : List UInt8} (h0 : l ≠ []) (hl : l.length ≤ 60) (h : ∀ b ∈ l, letter b = true) : name l = true := by
  have hr := runes_letters h
  have hall : ∀ x ∈ l.map (·.toNat), 97 ≤ x ∧ x ≤ 122 := fun x hx => by
    obtain ⟨b, hb, rfl⟩ := List.mem_map.1 hx
    exact letter_low (h b hb)
  have hne : l.map (·.toNat) ≠ [] := by simpa using h0
  have hnb : ∀ x, 97 ≤ x → x ≤ 122 → blank x = false := fun x h1 h2 => by unfold blank; simp; omega
  have hp : 0 < l.length := List.length_pos_iff.2 h0
  unfold name
  rw [hr, enc_letters h]
  obtain ⟨X, hX⟩ : ∃ X, l.map (·.toNat) = X := ⟨_, rfl⟩
  rw [hX] at hall hne ⊢
  have hhd : X.headD 0 ∈ X := by
    rcases X with _ | ⟨x, X⟩
    · exact absurd rfl hne
    · simp
  have hlt : X.getLastD 0 ∈ X := by
    rcases X with _ | ⟨x, X⟩
    · exact absurd rfl hne
    · rw [List.getLastD_cons]
      cases hX' : X with
      | nil => simp
      | cons y Y => simp only [List.getLastD_eq_getLast?]; exact List.mem_cons_of_mem _ (by
          rw [List.getLast?_eq_some_getLast (by simp)]; simp)
  have b1 := hnb _ (hall _ hhd).1 (hall _ hhd).2
  have b2 := hnb _ (hall _ hlt).1 (hall _ hlt).2
  have b3 : X.all nameRune = true := by
    rw [List.all_eq_true]
    intro x hx
    obtain ⟨h1, h2⟩ := hall x hx
    have : ∀ y : Nat, y ≤ 122 → 97 ≤ y → nameRune y = true := by decide
    exact this x h2 h1
  rw [b1, b2, b3]
  simp; omega
end Go.Proofs.YtfppfaliepkhgaaDoor.At
