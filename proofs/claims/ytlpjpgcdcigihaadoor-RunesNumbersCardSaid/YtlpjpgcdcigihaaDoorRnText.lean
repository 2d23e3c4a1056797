/- Package runes and the document's own answer: texts that are made: Text, Fold. -/
import Derived.Test.YtlpjpgcdcigihaaDoorRnFns
import Derived.Laws.OwnMore
namespace Go.Proofs.YtlpjpgcdcigihaaDoor
open Go.RowKit

theorem fresh_builder (w : World) : IsB w.heap.size w.heap.size (Lib.byteCells (Ru.enc [])) (w.alloc (.cells #[.pointer none, .slice none 0 0] 44)) :=
  Lib.IsBuilderF.of (Lib.fresh_isBuilder 44 5 w)
theorem iter_new2 (w : World) (o : Obj) (l : List UInt8) : ((w.alloc o).alloc (.stringIter (bs l) 0)).heap[w.heap.size + 1]? = some (.stringIter (bs l) 0) := by
  have := heap_alloc_new (w.alloc o) (.stringIter (bs l) 0)
  simpa using this
theorem ext_alloc2 (w : World) (o p : Obj) : Below w.heap.size w ((w.alloc o).alloc p) := ((Below.refl _ w).alloc (Nat.le_refl _) _).alloc (by simp) _

set_option maxHeartbeats 4000000 in
set_option maxRecDepth 100000 in
theorem text_any (l : List UInt8) (A : Option Addr) (c : Nat) (w : World) (hR : Row w w.heap.size 1 A l.length (bcells l)) (hs : l.length ≤ 1000000000) :
    Calls Tryd.prog 16 #[.slice A l.length c] w fun e w' => e = .returned (.string (bs (Ru.text l))) ∧ Below w.heap.size w w' := by
  have hcv := run_text (c := c) (hR.alloc (Nat.le_refl _) (.cells #[.pointer none, .slice none 0 0] 44)) 23 5 9 Tryd.underlying23 Tryd.underlying5 Tryd.underlying9
  clear hR
  go_enter Tryd.func16, Tryd.ntmps16
  go_wp2
  go_loopw [] (fun wr => ∃ (pos : Nat) (D : List Nat), IsB w.heap.size w.heap.size (Lib.byteCells (Ru.enc (D.map Ru.zr))) wr ∧ Hid (wr.heap[w.heap.size + 1]? = some (.stringIter (bs l) pos)) ∧ Hid (D ++ Ru.runes (l.drop pos) = Ru.runes l) ∧ Below w.heap.size w wr)
    (fun wr => l.length - wr.iterPos (w.heap.size + 1))
  case atStart => exact ⟨0, [], (fresh_builder w).alloc _, Lib.hid (iter_new2 _ _ _), Lib.hid rfl, ext_alloc2 _ _ _⟩
  case round =>
    obtain ⟨pos, D, hI, hit, hD, hb⟩ := hrel
    have hdl := runes_part hD.out
    have hlt : w.heap.size + 1 < wr.heap.size := (Array.getElem?_eq_some_iff.1 hit.out).1
    by_cases hp : pos < l.length
    · obtain ⟨x, k, hk, hv, hd, hD2⟩ := runes_next hp hD.out
      have hnx := run_next_rune hit.out hp hd
      replace hD2 := Lib.hid hD2
      replace hd := Lib.hid hd
      have hit2 := Lib.hid (Lib.iterAt_heap wr (w.heap.size + 1) (bs l) pos (pos + k) hit.out)
      have hb2 := Lib.below_iterAt hb (k := w.heap.size + 1) (by omega) (bs l) (pos + k)
      have hI2 : IsB _ _ _ _ := hI.iterAt hit.out (pos + k)
      have hpos : Hid (wr.iterPos (w.heap.size + 1) = pos) := Lib.hid (by simp only [World.iterPos, hit.out])
      have hz2 : w.heap.size ≤ (wr.iterAt (w.heap.size + 1) (bs l) (pos + k)).heap.size := by rw [Lib.iterAt_size]; omega
      have hl4 := (Ru.enc_len (D.map Ru.zr)).2
      rw [List.length_map] at hl4
      have hvx : x ≤ 1114111 := by unfold Ru.vr at hv; omega
      have hzx : Hid (Ru.zr x = if x = 0 then 65533 else x) := Lib.hid rfl
      have hlen : (Lib.byteCells (Ru.enc (D.map Ru.zr))).length + 4 ≤ 140737488355328 := by rw [Lib.byteCells_length]; omega
      have hend : ∀ (z : Nat) (wz : World), z = Ru.zr x → IsB w.heap.size w.heap.size (Lib.byteCells (Ru.enc (D.map Ru.zr)) ++ Lib.runeCells (z : Int)) wz → IsB w.heap.size w.heap.size (Lib.byteCells (Ru.enc ((D ++ [x]).map Ru.zr))) wz := by
        intro z wz hz h
        subst hz
        rw [List.map_append, List.map_cons, List.map_nil, Ru.enc_snoc, Lib.byteCells_append, Lib.byteCells_encodeRune]
        exact h
      replace hend := Lib.hid hend
      by_cases h0 : x = 0
      · have ht : (((x : Nat) : Int) == 0) = true := by simp [h0]
        have hz : 65533 = Ru.zr x := by rw [hzx.out, if_pos h0]
        replace hz := Lib.hid hz
        replace h0 := Lib.hid h0
        go_wp2_with (go_at_call 28; refine (writeRune_any w.heap.size w.heap.size _ 65533 (by omega) (by omega) _ hI2 hlen hz2).mono ?_; rintro e w2 ⟨⟨v, rfl⟩, h1, b1, k1⟩)
        have hit3 : Hid (w2.heap[w.heap.size + 1]? = some (.stringIter (bs l) (pos + k))) := Lib.hid (k1.iter hit2.out (by omega))
        have hpos2 : Hid (w2.iterPos (w.heap.size + 1) = pos + k) := Lib.hid (by simp only [World.iterPos, hit3.out])
        go_wp2
        go_roundw
        case rel => exact ⟨pos + k, D ++ [x], hend.out 65533 _ hz.out h1, hit3, hD2, hb2.trans b1⟩
        case measure => rw [hpos.out, hpos2.out]; omega
      · have ht : (((x : Nat) : Int) == 0) = false := by simp [h0]
        have hz : x = Ru.zr x := by rw [hzx.out, if_neg h0]
        replace hz := Lib.hid hz
        replace h0 := Lib.hid h0
        go_wp2_with (go_at_call 28; refine (writeRune_any w.heap.size w.heap.size _ _ (by omega) (by omega) _ hI2 hlen hz2).mono ?_; rintro e w2 ⟨⟨v, rfl⟩, h1, b1, k1⟩)
        have hit3 : Hid (w2.heap[w.heap.size + 1]? = some (.stringIter (bs l) (pos + k))) := Lib.hid (k1.iter hit2.out (by omega))
        have hpos2 : Hid (w2.iterPos (w.heap.size + 1) = pos + k) := Lib.hid (by simp only [World.iterPos, hit3.out])
        go_wp2
        go_roundw
        case rel => exact ⟨pos + k, D ++ [x], hend.out x _ hz.out h1, hit3, hD2, hb2.trans b1⟩
        case measure => rw [hpos.out, hpos2.out]; omega
    · have hnx := run_next_done hit.out hp
      have hDe := runes_done hp hD.out
      clear hD
      subst hDe
      go_wp2_with (go_at_call 30; refine (Tryd.Builder_String_any_k w.heap.size w.heap.size _ _ hI (by omega)).mono ?_; rintro e w2 ⟨rfl, _, b1, _⟩)
      go_wp2
      go_ret
      exact ⟨rfl, hb.trans b1⟩

theorem runesBytes_enc (X : List Nat) : runesBytes (X.map fun x : Nat => (x : Int)) = bs (Ru.enc X) := by
  have : ∀ (X : List Nat) (s : List UInt8), (X.map fun x : Nat => (x : Int)).foldl (fun r n => r ++ Utf8.encode n) (bs s) = bs (s ++ Ru.enc X) := by
    intro X
    induction X with
    | nil => intro s; simp [Ru.enc_nil]
    | cons x X ih =>
      intro s
      have he : Utf8.encode (x : Int) = bs (Lib.encodeRune (x : Int)) := Ru.encode_eq _
      rw [List.map_cons, List.foldl_cons, he, bs_append, ih, Ru.enc_cons, List.append_assoc]
  exact this X []

/-- runes made a text -/
theorem run_runes {P : Program} {w : World} {B n c : Nat} {A : Option Addr} {X : List Nat} (h : Row w B 1 A n (rcells X)) (src e dst : TypeId) (hs : P.underlying src = some (.slice e)) (he : P.underlying e = some (.int .i32)) (hd : P.underlying dst = some .string) :
    (convert src dst (.slice A n c)).run P w = .ok (.string (bs (Ru.enc X))) w := by
  have hn : X.length = n := by have := h.1; simpa [rcells] using this
  rcases A with _ | ad
  · have h0 : n = 0 := by
      rcases Nat.eq_zero_or_pos n with h0 | h0
      · exact h0
      · obtain ⟨b, o, e, _⟩ := h.2 h0; cases e
    subst h0
    have : X = [] := List.eq_nil_of_length_eq_zero hn
    subst this
    rw [run_convert_runes_nil w src dst e 0 c hs he hd]
    rfl
  · rw [run_convert_runes w src dst e ad n c (X.map fun x : Nat => (x : Int)) (by simp; omega) hs he hd ?_]
    · rw [List.take_of_length_le (by simp; omega), runesBytes_enc]
    · intro j hj
      have hj' : j < X.length := by simpa using hj
      obtain ⟨b, o, ha, _, hc⟩ := h.2 (by omega)
      cases ha
      have := hc j (.int .i32 (X[j] : Int)) (by simp [rcells, List.getElem?_eq_getElem hj'])
      have ea : (⟨b, o, none⟩ : Addr).add j = ⟨b, o + j, none⟩ := by unfold Addr.add; split <;> simp_all
      rw [ea, this]
      simp [List.getD, List.getElem?_eq_getElem hj']

/-- some of the first are judged -/
def mixZ (i : Nat) (X : List Nat) : List Nat := (X.take i).map Ru.zr ++ X.drop i
theorem mixZ_len (i : Nat) (X : List Nat) : (mixZ i X).length = X.length := by simp [mixZ]; omega
theorem mixZ_zero (X : List Nat) : mixZ 0 X = X := by simp [mixZ]
theorem mixZ_all {i : Nat} {X : List Nat} (h : X.length ≤ i) : mixZ i X = X.map Ru.zr := by simp [mixZ, List.take_of_length_le h, List.drop_eq_nil_of_le h]
theorem mixZ_at {i : Nat} {X : List Nat} (h : i < X.length) : (mixZ i X)[i]? = some X[i] := by
  unfold mixZ
  rw [List.getElem?_append_right (by simp; omega)]
  simp [Nat.min_eq_left (Nat.le_of_lt h), h]
theorem mixZ_succ {i : Nat} {X : List Nat} (h : i < X.length) : mixZ (i + 1) X = (mixZ i X).set i (Ru.zr X[i]) := by
  apply List.ext_getElem?
  intro j
  have hl := mixZ_len i X
  unfold mixZ at hl ⊢
  rw [List.getElem?_set]
  by_cases hj : i = j
  · subst hj
    rw [if_pos rfl, if_pos (by rw [hl]; exact h), List.getElem?_append_left (by simp; omega)]
    simp [h]
  · rw [if_neg hj]
    by_cases hlt : j < i
    · rw [List.getElem?_append_left (by simp; omega), List.getElem?_append_left (by simp; omega)]
      simp [hlt, Nat.lt_succ_of_lt hlt]
    · rw [List.getElem?_append_right (by simp; omega), List.getElem?_append_right (by simp; omega)]
      simp only [List.length_map, List.length_take, List.getElem?_drop]
      congr 1
      omega
theorem rcells_set (X : List Nat) (i x : Nat) : rcells (X.set i x) = (rcells X).set i (.int .i32 (x : Int)) := by simp [rcells, List.map_set]

set_option maxHeartbeats 2000000 in
set_option maxRecDepth 100000 in
theorem rtext_any (l : List UInt8) (A : Option Addr) (c : Nat) (w : World) (hR : Row w w.heap.size 1 A l.length (bcells l)) (hs : l.length ≤ 1000000000) :
    Calls Tryd.prog 24 #[.slice A l.length c] w fun e w' => e = .returned (.string (bs (Ru.text l))) ∧ Below w.heap.size w w' := by
  have hcv := run_text (c := c) hR 23 5 9 Tryd.underlying23 Tryd.underlying5 Tryd.underlying9
  clear hR
  have hrl := Ru.runes_len l
  go_enter Tryd.func24, Tryd.ntmps24
  go_wp2_with (go_at_call 15; refine (rrunes_any l _ hs).mono ?_; rintro e w1 ⟨⟨v, rfl, hown⟩, hb1⟩)
  clear hcv
  have hte : Hid (Ru.text l = Ru.enc ((Ru.runes l).map Ru.zr)) := Lib.hid rfl
  obtain ⟨X, hX⟩ : ∃ X, X = Ru.runes l := ⟨_, rfl⟩
  rw [← hX] at hown hrl
  rw [← hX] at hte
  clear hX
  obtain ⟨A1, c1, rfl, hc1⟩ := own_shape hown
  have hXl : X.length ≤ 1000000000 := by omega
  go_wp2
  rw [run_len_slice _ _ _ _ _ _ (by kernel_rfl)]
  go_wp2
  go_loopw [10, 4] (fun i _ wr => ∃ k : Nat, k ≤ X.length ∧ i = .int .i64 k ∧ wr.ownsRow (w.heap.size + 1) 21 1 (.slice A1 X.length c1) X.length (rcells (mixZ k X)) ∧ Below w.heap.size w wr)
    (fun i _ _ => X.length - (intOf i).toNat)
  case atStart => exact ⟨0, Nat.zero_le _, rfl, by rw [mixZ_zero]; exact hown, hb1⟩
  case round =>
    obtain ⟨k, hk, rfl, ho, hb⟩ := hrel
    clear hown hb1
    by_cases hlt : k < X.length
    · obtain ⟨g, rfl, hg1, hg2⟩ : ∃ g, A1 = some ⟨g, 0, none⟩ ∧ w.heap.size + 1 ≤ g ∧ g < wr.heap.size := by
        rcases ho.2 with ⟨hv, h0⟩ | ⟨g, cap, cur, hv, hbg, hgg, _⟩
        · omega
        · injection hv with h1 _ _; exact ⟨g, h1, hbg, (Array.getElem?_eq_some_iff.1 hgg).1⟩
      have hx : wr.cell? ⟨g, k, none⟩ = some (.int .i32 (X[k] : Int)) := by
        have := ho.cells (g := g) rfl k (.int .i32 (X[k] : Int)) (by rw [rcells, List.getElem?_map, mixZ_at hlt]; rfl)
        have ea : (⟨g, 0, none⟩ : Addr).add k = ⟨g, k, none⟩ := by unfold Addr.add; split <;> simp_all
        rwa [ea] at this
      have hfz := ho.frozenAt k
      have hms := mixZ_succ hlt
      obtain ⟨x, hxx⟩ : ∃ x, x = X[k] := ⟨_, rfl⟩
      rw [← hxx] at hx hms
      clear hxx
      have hms1 := Lib.hid hms
      clear hms
      have hst := Lib.hid (ho.stored k (.int .i32 65533))
      have hset : Hid ((mixZ k X).set k x = mixZ k X → True) := Lib.hid (fun _ => trivial)
      clear hset
      by_cases h0 : x = 0
      · have ht : (((x : Nat) : Int) == 0) = true := by simp [h0]
        have hz : Hid (Ru.zr x = 65533) := Lib.hid (by unfold Ru.zr; rw [if_pos h0])
        replace h0 := Lib.hid h0
        replace ho := Lib.hid ho
        go_wp2
        go_roundw
        case rel => exact ⟨k + 1, by omega, by go_num, by rw [hms1.out, hz.out, rcells_set]; exact hst.out.1, hb.setCell (by simp; omega) _⟩
        case measure => simp [intOf]; omega
      · have ht : (((x : Nat) : Int) == 0) = false := by simp [h0]
        have hz : Hid (Ru.zr x = x) := Lib.hid (by unfold Ru.zr; rw [if_neg h0])
        have hat : Hid ((mixZ k X).set k x = mixZ k X) := Lib.hid (by
          have h1 : (rcells (mixZ k X))[k]? = some (.int .i32 (x : Int)) := by
            have h2 := ho.cells (g := g) rfl k
            rcases hq : (rcells (mixZ k X))[k]? with _ | u
            · rw [List.getElem?_eq_none_iff, rcells_len, mixZ_len] at hq; omega
            · have h3 := h2 u hq
              have ea : (⟨g, 0, none⟩ : Addr).add k = ⟨g, k, none⟩ := by unfold Addr.add; split <;> simp_all
              rw [ea, hx] at h3; exact h3.symm
          rw [rcells, List.getElem?_map] at h1
          obtain ⟨y, hy, hyx⟩ := Option.map_eq_some_iff.1 h1
          injection hyx with _ hyx
          have : y = x := by omega
          subst this
          apply List.ext_getElem?
          intro j
          rw [List.getElem?_set]
          split
          · rename_i hj; subst hj; rw [hy]; rw [if_pos (by rw [mixZ_len]; exact hlt)]
          · rfl)
        replace h0 := Lib.hid h0
        replace ho := Lib.hid ho
        go_wp2
        go_roundw
        case rel => exact ⟨k + 1, by omega, by go_num, by rw [hms1.out, hz.out, hat.out]; exact ho.out, hb⟩
        case measure => simp [intOf]; omega
    · have hfin : mixZ k X = X.map Ru.zr := mixZ_all (by omega)
      rw [hfin] at ho
      clear hfin
      have hcv2 := run_runes (c := c1) (Row.own ho) 33 21 9 Tryd.underlying33 Tryd.underlying21 Tryd.underlying9
      rw [← hte.out] at hcv2
      replace ho := Lib.hid ho
      go_wp2
      go_ret
      exact ⟨rfl, hb⟩
end Go.Proofs.YtlpjpgcdcigihaaDoor
