/- The document's own runes of a text; runes made a text. -/
import Derived.Test.YtfppfaliepkhgaaDoorRnIter
namespace Go.Proofs.YtfppfaliepkhgaaDoor
open Go.RowKit

theorem runeEI : EI Tryd.prog 55 21 1 4 := EI.mk' Tryd.underlying55 (z := .int .i32 0) (by kernel_rfl) rfl (by omega)

set_option maxHeartbeats 1000000 in
set_option maxRecDepth 100000 in
theorem rrunes_any (l : List UInt8) (w : World) (hs : l.length ≤ 1000000000) :
    Calls Tryd.prog 29 #[.string (bs l)] w fun e w' => (∃ v, e = .returned v ∧ w'.ownsRow (w.heap.size + 1) 21 1 v (Ru.runes l).length (rcells (Ru.runes l))) ∧ Below w.heap.size w w' := by
  go_enter Tryd.func29, Tryd.ntmps29
  go_wp2
  go_loopw [3] (fun v wr => ∃ (pos : Nat) (D : List Nat), Hid (wr.heap[w.heap.size]? = some (.stringIter (bs l) pos)) ∧ Hid (D ++ Ru.runes (l.drop pos) = Ru.runes l) ∧ wr.ownsRow (w.heap.size + 1) 21 1 v D.length (rcells D) ∧ Below w.heap.size w wr)
    (fun _ wr => l.length - wr.iterPos w.heap.size)
  case atStart => exact ⟨0, [], Lib.hid (iter_new _ _ _ rfl), Lib.hid rfl, World.ownsRow_nil _ _ _ _, ext_alloc _ _⟩
  case round =>
    obtain ⟨pos, D, hit, hD, hown, hb⟩ := hrel
    have hdl := runes_part hD.out
    have hlt : w.heap.size < wr.heap.size := (Array.getElem?_eq_some_iff.1 hit.out).1
    by_cases hp : pos < l.length
    · obtain ⟨x, k, hk, hv, hd, hD2⟩ := runes_next hp hD.out
      have hnx := run_next_rune hit.out hp hd
      replace hD2 := Lib.hid hD2
      replace hd := Lib.hid hd
      have hit2 := Lib.hid (Lib.iterAt_heap wr w.heap.size (bs l) pos (pos + k) hit.out)
      have hb2 := Lib.below_iterAt hb (k := w.heap.size) (Nat.le_refl _) (bs l) (pos + k)
      have hpos : Hid (wr.iterPos w.heap.size = pos) := Lib.hid (by simp only [World.iterPos, hit.out])
      have hown2 := own_iterAt hown (k := w.heap.size) (by omega) (bs l) (pos + k)
      have hz2 : w.heap.size + 1 ≤ (wr.iterAt w.heap.size (bs l) (pos + k)).heap.size := by rw [Lib.iterAt_size]; omega
      go_wp2_with (at_builtin; refine wpList_app_new rfl (.tmp 11) (.tmp 13) rfl runeEI rfl hown2 rfl rfl rfl (by simp; rfl) (by omega) (by omega) hz2 ?_; intro v2 w2 hown3 hg hb3)
      have hit3 : Hid (w2.heap[w.heap.size]? = some (.stringIter (bs l) (pos + k))) := Lib.hid ((hg.out.block w.heap.size (by omega) (fun e => own_ne_lt hown2 (k := w.heap.size) (by omega) e.symm)).trans hit2.out)
      have hpos2 : Hid (w2.iterPos w.heap.size = pos + k) := Lib.hid (by simp only [World.iterPos, hit3.out])
      go_roundw
      case rel => exact ⟨pos + k, D ++ [x], hit3, hD2, by simpa [rcells] using hown3, hb2.trans (hb3.mono (by omega))⟩
      case measure => rw [hpos.out, hpos2.out]; omega
    · have hnx := run_next_done hit.out hp
      have hDe := runes_done hp hD.out
      clear hD
      subst hDe
      go_wp2
      go_ret
      exact ⟨⟨_, rfl, hown⟩, hb⟩

theorem runesBytes_enc (X : List Nat) : runesBytes (X.map fun x : Nat => (x : Int)) = bs (Ru.enc X) := by
  have : ∀ (X : List Nat) (s : List UInt8), (X.map fun x : Nat => (x : Int)).foldl (fun r n => r ++ Utf8.encode n) (bs s) = bs (s ++ Ru.enc X) := by
    intro X
    induction X with
    | nil => intro s; simp [Ru.enc_nil]
    | cons x X ih =>
      intro s
      have he : Utf8.encode (x : Int) = bs (Lib.encodeRune (x : Int)) := Ru.encode_eq _
      rw [List.map_cons, List.foldl_cons, he, bs_append, ih, Ru.enc_cons, List.append_assoc]
  exact this X []

/-- runes made a text -/
theorem run_runes {P : Program} {w : World} {B n c : Nat} {A : Option Addr} {X : List Nat} (h : Row w B 1 A n (rcells X)) (src e dst : TypeId) (hs : P.underlying src = some (.slice e)) (he : P.underlying e = some (.int .i32)) (hd : P.underlying dst = some .string) :
    (convert src dst (.slice A n c)).run P w = .ok (.string (bs (Ru.enc X))) w := by
  have hn : X.length = n := by have := h.1; simpa [rcells] using this
  rcases A with _ | ad
  · have h0 : n = 0 := by
      rcases Nat.eq_zero_or_pos n with h0 | h0
      · exact h0
      · obtain ⟨b, o, e, _⟩ := h.2 h0; cases e
    subst h0
    have : X = [] := List.eq_nil_of_length_eq_zero hn
    subst this
    rw [run_convert_runes_nil w src dst e 0 c hs he hd]
    rfl
  · rw [run_convert_runes w src dst e ad n c (X.map fun x : Nat => (x : Int)) (by simp; omega) hs he hd ?_]
    · rw [List.take_of_length_le (by simp; omega), runesBytes_enc]
    · intro j hj
      have hj' : j < X.length := by simpa using hj
      obtain ⟨b, o, ha, _, hc⟩ := h.2 (by omega)
      cases ha
      have := hc j (.int .i32 (X[j] : Int)) (by simp [rcells, List.getElem?_eq_getElem hj'])
      have ea : (⟨b, o, none⟩ : Addr).add j = ⟨b, o + j, none⟩ := by unfold Addr.add; split <;> simp_all
      rw [ea, this]
      simp [List.getD, List.getElem?_eq_getElem hj']
end Go.Proofs.YtfppfaliepkhgaaDoor
