/- Package runes: what is told of one text is the document's own answer: for every text. -/
import Derived.Test.YtlpjpgcdcigihaaDoorRnFold
import Derived.Lib.ConvBytes
namespace Go.Proofs.YtlpjpgcdcigihaaDoor
open Go.RowKit

theorem run_bytes (l : List UInt8) (w : World) :
    (convert 9 23 (.string (bs l))).run Tryd.prog w = .ok (.slice (some ⟨w.heap.size, 0, none⟩) l.length (grownCap w l.length 0 5)) (Lib.bytesWorld w 5 (bs l)) := by
  have := Lib.run_convert_string_bytes (P := Tryd.prog) w 9 23 5 (bs l) Tryd.underlying9 Tryd.underlying23 Tryd.underlying5
  rwa [bs_size] at this
theorem below_bytes (w : World) (s : ByteArray) : Below w.heap.size w (Lib.bytesWorld w 5 s) := by
  refine ⟨?_, ?_, ?_, by rw [Lib.bytesWorld_size]; omega, fun k hk => Lib.bytesWorld_at_old w _ s k hk⟩
  all_goals
    unfold Lib.bytesWorld World.freeze
    split <;> rfl
theorem row_bytes (w : World) (l : List UInt8) : Row (Lib.bytesWorld w 5 (bs l)) (Lib.bytesWorld w 5 (bs l)).heap.size 1 (some ⟨w.heap.size, 0, none⟩) l.length (bcells l) := by
  refine ⟨by simp [bcells], fun _ => ⟨w.heap.size, 0, rfl, by rw [Lib.bytesWorld_size]; omega, fun j u hu => ?_⟩⟩
  have hj : j < l.length := by have := (List.getElem?_eq_some_iff.1 hu).1; simpa [bcells] using this
  rw [Nat.zero_add, Lib.bytesWorld_cell w _ _ j (by rw [bs_size]; exact hj)]
  simp [bcells, bv, List.getElem?_eq_getElem hj] at hu
  simp [bs, List.getD, List.getElem?_eq_getElem hj, ← hu]

theorem hd_at {l : List UInt8} (h : Ru.runes l ≠ []) : hdR l = (Ru.runes l)[0]'(List.length_pos_iff.2 h) := by
  unfold hdR
  rw [List.headD_eq_head?_getD, List.head?_eq_getElem?, List.getElem?_eq_getElem (List.length_pos_iff.2 h)]
  rfl
theorem lt_at {l : List UInt8} (h : Ru.runes l ≠ []) : ltR l = (Ru.runes l)[(Ru.runes l).length - 1]'(by have := List.length_pos_iff.2 h; omega) := by
  unfold ltR
  rw [List.getLastD_eq_getLast?, List.getLast?_eq_getElem?, List.getElem?_eq_getElem (by have := List.length_pos_iff.2 h; omega)]
  rfl
theorem tabs_ext {w w' : World} (h : Tabs w) (hb : Below w.heap.size w w') : Tabs w' := Utf8Tabs_below h hb

set_option maxHeartbeats 4000000 in
set_option maxRecDepth 100000 in
theorem same_any (l : List UInt8) (w : World) (hs : l.length ≤ 1000000000) (hT : Tabs w) :
    Calls Tryd.prog 9 #[.string (bs l)] w fun e w' => e = .returned (.bool true) ∧ Below w.heap.size w w' := by
  replace hT := Lib.hid hT
  have hrb := Lib.hid (run_bytes l)
  go_enter Tryd.func9, Tryd.ntmps9
  go_wp2_with fail
  refine (rrunes_any l _ hs).mono ?_
  rintro e w1 ⟨⟨v, rfl, hown⟩, hb1⟩
  obtain ⟨A1, c1, rfl, hc1⟩ := own_shape hown
  have hR1 := Lib.hid (Row.own hown)
  have hT1 := Lib.hid (tabs_ext hT.out hb1)
  replace hb1 := Lib.hid hb1
  have hrl := Ru.runes_len l
  clear hown
  rcases Classical.em (l = []) with hl | hl
  case' inl =>
    subst hl
    go_wp2_with fail
    refine (first_none _).mono ?_
    rintro e w2 ⟨rfl, hb2⟩
    have hb2' := Lib.hid (ext_trans hb1.out hb2)
    clear hb2
    go_wp2_with fail
    refine (last_none _).mono ?_
    rintro e w3 ⟨rfl, hb3⟩
    have hb3' := Lib.hid (ext_trans hb2'.out hb3)
    clear hb3
    obtain ⟨N, hN⟩ : ∃ N, N = (Ru.runes []).length := ⟨_, rfl⟩
    have hN0 : N = 0 := hN
    have h0 : (Ru.runes []).length = 0 := rfl
    rw [← hN]
    replace hN := Lib.hid hN
    subst hN0
    clear h0
    have hcv := hrb.out
    go_wp2_with fail
  case' inr =>
    go_wp2_with fail
    refine (first_some l hl _).mono ?_
    rintro e w2 ⟨rfl, hb2⟩
    have hb2' := Lib.hid (ext_trans hb1.out hb2)
    have hT2 := Lib.hid (tabs_ext hT1.out hb2)
    have hR2 := Lib.hid (hR1.out.ext hb2)
    clear hb2
    go_wp2_with fail
    refine (last_some l hl _ (by omega) hT2.out).mono ?_
    rintro e w3 ⟨rfl, hb3⟩
    have hb3' := Lib.hid (ext_trans hb2'.out hb3)
    have hR3 := Lib.hid (hR2.out.ext hb3)
    clear hb3
    have hrn := Ru.runes_ne hl
    have hf := hd_at hrn
    have hg := lt_at hrn
    obtain ⟨b, o, hA, hbb, hc⟩ := hR3.out.at1 (k := 0) (List.length_pos_iff.2 hrn)
    subst hA
    have q0 : w3.cell? ⟨b, o, none⟩ = some (.int .i32 (hdR l : Int)) := by
      have := hc 0 (List.length_pos_iff.2 hrn)
      rw [Nat.add_zero] at this
      rw [this, hf]; simp [rcells]
    obtain ⟨m, hm⟩ : ∃ m, (Ru.runes l).length = m + 1 := ⟨(Ru.runes l).length - 1, by have := List.length_pos_iff.2 hrn; omega⟩
    have q1 : w3.cell? ⟨b, o + m, none⟩ = some (.int .i32 (ltR l : Int)) := by
      have := hc m (by omega)
      rw [this, hg]; simp [rcells, hm]
    obtain ⟨N, hN⟩ : ∃ N, N = (Ru.runes l).length := ⟨_, rfl⟩
    have hNm : N = m + 1 := by omega
    rw [← hN]
    rw [← hN] at hrl
    replace hN := Lib.hid hN
    clear hc hf hg hm hrn
    subst hNm
    have hcv := hrb.out
    go_wp2_with fail
  all_goals
    refine (text_any _ _ _ _ (row_bytes w3 _) hs).mono ?_
    rintro e w4 ⟨rfl, hb4⟩
    have hb4' := Lib.hid (ext_trans (ext_trans hb3'.out (below_bytes _ _)) hb4)
    clear hb4
    go_wp2_with fail
    refine (rtext_any _ _ _ _ (row_bytes w4 _) hs).mono ?_
    rintro e w5 ⟨rfl, hb5⟩
    have hb5' := Lib.hid (ext_trans (ext_trans hb4'.out (below_bytes _ _)) hb5)
    clear hb5
    go_wp2_with fail
    refine (fold_any _ _ hs).mono ?_
    rintro e w6 ⟨rfl, hb6⟩
    have hb6' := Lib.hid (ext_trans hb5'.out hb6)
    clear hb6
    go_wp2_with fail
    refine (rfold_any _ _ hs).mono ?_
    rintro e w7 ⟨rfl, hb7⟩
    have hb7' := Lib.hid (ext_trans hb6'.out hb7)
    clear hb7
    go_wp2_with fail
    refine (count_any _ _ (by omega)).mono ?_
    rintro e w8 ⟨rfl, hb8⟩
    have hb8' := Lib.hid (ext_trans hb7'.out hb8)
    clear hb8
    first | rw [← hN.out] | skip
    go_wp2
    go_ret
    exact ⟨rfl, hb8'.out⟩
end Go.Proofs.YtlpjpgcdcigihaaDoor
