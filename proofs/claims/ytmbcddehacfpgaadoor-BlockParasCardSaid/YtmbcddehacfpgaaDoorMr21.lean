/- Package runes and the document's own answer: one contract for each function that goes over a text's runes. Package runes and the document's own answer: texts that are made: Text, Fold. -/
import Derived.Test.YtmbcddehacfpgaaDoorMr13
import Derived.Test.YtmbcddehacfpgaaDoorMr15
import Derived.Laws.Cover4
import Derived.Laws.OwnMore
namespace Go.Proofs.YtmbcddehacfpgaaDoor
open Go.RowKit

/-- the first rune, the last one -/
def hdR (l : List UInt8) : Nat := (Ru.runes l).headD 0
def ltR (l : List UInt8) : Nat := (Ru.runes l).getLastD 0

/-- the tables of unicode/utf8, as they lie -/
abbrev Tabs (w : World) : Prop := Lib.Utf8Tabs 1 2 w

end Go.Proofs.YtmbcddehacfpgaaDoor

namespace Go.Proofs.YtmbcddehacfpgaaDoor
open Go.RowKit

theorem fresh_builder (w : World) : IsB w.heap.size w.heap.size (Lib.byteCells (Ru.enc [])) (w.alloc (.cells #[.pointer none, .slice none 0 0] 74)) :=
  Lib.IsBuilderF.of (Lib.fresh_isBuilder 74 5 w)
theorem iter_new2 (w : World) (o : Obj) (l : List UInt8) : ((w.alloc o).alloc (.stringIter (bs l) 0)).heap[w.heap.size + 1]? = some (.stringIter (bs l) 0) := by
  have := heap_alloc_new (w.alloc o) (.stringIter (bs l) 0)
  simpa using this
theorem ext_alloc2 (w : World) (o p : Obj) : Below w.heap.size w ((w.alloc o).alloc p) := ((Below.refl _ w).alloc (Nat.le_refl _) _).alloc (by simp) _

set_option maxHeartbeats 4000000 in
set_option maxRecDepth 100000 in
theorem text_any (l : List UInt8) (A : Option Addr) (c : Nat) (w : World) (hR : Row w w.heap.size 1 A l.length (bcells l)) (hs : l.length ≤ 1000000000) :
    Calls Tryd.prog 19 #[.slice A l.length c] w fun e w' => e = .returned (.string (bs (Ru.text l))) ∧ Below w.heap.size w w' := by
  have hcv := run_text (c := c) (hR.alloc (Nat.le_refl _) (.cells #[.pointer none, .slice none 0 0] 74)) 23 5 9 Tryd.underlying23 Tryd.underlying5 Tryd.underlying9
  clear hR
  go_enter Tryd.func19, Tryd.ntmps19
  go_wp2
  go_loopw [] (fun wr => ∃ (pos : Nat) (D : List Nat), IsB w.heap.size w.heap.size (Lib.byteCells (Ru.enc (D.map Ru.zr))) wr ∧ Hid (wr.heap[w.heap.size + 1]? = some (.stringIter (bs l) pos)) ∧ Hid (D ++ Ru.runes (l.drop pos) = Ru.runes l) ∧ Below w.heap.size w wr)
    (fun wr => l.length - wr.iterPos (w.heap.size + 1))
  case atStart => exact ⟨0, [], (fresh_builder w).alloc _, Lib.hid (iter_new2 _ _ _), Lib.hid rfl, ext_alloc2 _ _ _⟩
  case round =>
    obtain ⟨pos, D, hI, hit, hD, hb⟩ := hrel
    have hdl := runes_part hD.out
    have hlt : w.heap.size + 1 < wr.heap.size := (Array.getElem?_eq_some_iff.1 hit.out).1
    by_cases hp : pos < l.length
    · obtain ⟨x, k, hk, hv, hd, hD2⟩ := runes_next hp hD.out
      have hnx := run_next_rune hit.out hp hd
      replace hD2 := Lib.hid hD2
      replace hd := Lib.hid hd
      have hit2 := Lib.hid (Lib.iterAt_heap wr (w.heap.size + 1) (bs l) pos (pos + k) hit.out)
      have hb2 := Lib.below_iterAt hb (k := w.heap.size + 1) (by omega) (bs l) (pos + k)
      have hI2 : IsB _ _ _ _ := hI.iterAt hit.out (pos + k)
      have hpos : Hid (wr.iterPos (w.heap.size + 1) = pos) := Lib.hid (by simp only [World.iterPos, hit.out])
      have hz2 : w.heap.size ≤ (wr.iterAt (w.heap.size + 1) (bs l) (pos + k)).heap.size := by rw [Lib.iterAt_size]; omega
      have hl4 := (Ru.enc_len (D.map Ru.zr)).2
      rw [List.length_map] at hl4
      have hvx : x ≤ 1114111 := by unfold Ru.vr at hv; omega
      have hzx : Hid (Ru.zr x = if x = 0 then 65533 else x) := Lib.hid rfl
      have hlen : (Lib.byteCells (Ru.enc (D.map Ru.zr))).length + 4 ≤ 140737488355328 := by rw [Lib.byteCells_length]; omega
      have hend : ∀ (z : Nat) (wz : World), z = Ru.zr x → IsB w.heap.size w.heap.size (Lib.byteCells (Ru.enc (D.map Ru.zr)) ++ Lib.runeCells (z : Int)) wz → IsB w.heap.size w.heap.size (Lib.byteCells (Ru.enc ((D ++ [x]).map Ru.zr))) wz := by
        intro z wz hz h
        subst hz
        rw [List.map_append, List.map_cons, List.map_nil, Ru.enc_snoc, Lib.byteCells_append, Lib.byteCells_encodeRune]
        exact h
      replace hend := Lib.hid hend
      by_cases h0 : x = 0
      · have ht : (((x : Nat) : Int) == 0) = true := by simp [h0]
        have hz : 65533 = Ru.zr x := by rw [hzx.out, if_pos h0]
        replace hz := Lib.hid hz
        replace h0 := Lib.hid h0
        go_wp2_with (go_at_call 26; refine (writeRune_any w.heap.size w.heap.size _ 65533 (by omega) (by omega) _ hI2 hlen hz2).mono ?_; rintro e w2 ⟨⟨v, rfl⟩, h1, b1, k1⟩)
        have hit3 : Hid (w2.heap[w.heap.size + 1]? = some (.stringIter (bs l) (pos + k))) := Lib.hid (k1.iter hit2.out (by omega))
        have hpos2 : Hid (w2.iterPos (w.heap.size + 1) = pos + k) := Lib.hid (by simp only [World.iterPos, hit3.out])
        go_wp2
        go_roundw
        case rel => exact ⟨pos + k, D ++ [x], hend.out 65533 _ hz.out h1, hit3, hD2, hb2.trans b1⟩
        case measure => rw [hpos.out, hpos2.out]; omega
      · have ht : (((x : Nat) : Int) == 0) = false := by simp [h0]
        have hz : x = Ru.zr x := by rw [hzx.out, if_neg h0]
        replace hz := Lib.hid hz
        replace h0 := Lib.hid h0
        go_wp2_with (go_at_call 26; refine (writeRune_any w.heap.size w.heap.size _ _ (by omega) (by omega) _ hI2 hlen hz2).mono ?_; rintro e w2 ⟨⟨v, rfl⟩, h1, b1, k1⟩)
        have hit3 : Hid (w2.heap[w.heap.size + 1]? = some (.stringIter (bs l) (pos + k))) := Lib.hid (k1.iter hit2.out (by omega))
        have hpos2 : Hid (w2.iterPos (w.heap.size + 1) = pos + k) := Lib.hid (by simp only [World.iterPos, hit3.out])
        go_wp2
        go_roundw
        case rel => exact ⟨pos + k, D ++ [x], hend.out x _ hz.out h1, hit3, hD2, hb2.trans b1⟩
        case measure => rw [hpos.out, hpos2.out]; omega
    · have hnx := run_next_done hit.out hp
      have hDe := runes_done hp hD.out
      clear hD
      subst hDe
      go_wp2_with (go_at_call 27; refine (Tryd.Builder_String_any_k w.heap.size w.heap.size _ _ hI (by omega)).mono ?_; rintro e w2 ⟨rfl, _, b1, _⟩)
      go_wp2
      go_ret
      exact ⟨rfl, hb.trans b1⟩



end Go.Proofs.YtmbcddehacfpgaaDoor
