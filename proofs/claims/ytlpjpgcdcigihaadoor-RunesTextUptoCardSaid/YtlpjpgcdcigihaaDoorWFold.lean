/- RunesFold: folded twice is folded once; no blank is first, last, or beside another one. -/
import Derived.Test.YtlpjpgcdcigihaaDoorWTells
namespace Go.Proofs.YtlpjpgcdcigihaaDoor
open Go.RowKit

theorem and127 (x : Nat) (h : x ≤ 65535) : ∃ y : Nat, y ≤ 127 ∧ bits .and .u16 (x : Int) 127 = (y : Int) := by
  refine ⟨x &&& 127, Nat.and_le_right, ?_⟩
  exact u16_and_nat x 127 (by omega) (by omega)

theorem encX_len {X : List Nat} (hX : X.length ≤ 200000000) : (Ru.enc X).length ≤ 1000000000 := by have := (Ru.enc_len X).2; omega
section
variable {X : List Nat} (hv : ∀ x ∈ X, Ru.vr x) (hX : X.length ≤ 200000000)
include hv hX
theorem foldX (hf : Ru.fold X = X) (w : World) :
    Calls Tryd.prog 11 #[.string (bs (Ru.enc X))] w fun e w' => e = .returned (.string (bs (Ru.enc X))) ∧ Below w.heap.size w w' :=
  (fold_any (Ru.enc X) w (encX_len hX)).mono fun _ _ ⟨he, hb⟩ => ⟨by rw [he, Ru.runes_enc hv, hf], hb⟩
theorem countX (w : World) :
    Calls Tryd.prog 13 #[.string (bs (Ru.enc X))] w fun e w' => e = .returned (.int .i64 X.length) ∧ Below w.heap.size w w' :=
  (count_any (Ru.enc X) w (by have := encX_len hX; omega)).mono fun _ _ ⟨he, hb⟩ => ⟨by rw [he, Ru.runes_enc hv], hb⟩
theorem rrunesX (w : World) :
    Calls Tryd.prog 15 #[.string (bs (Ru.enc X))] w fun e w' => ∃ A c, e = .returned (.slice A X.length c) ∧ Row w' w'.heap.size 1 A X.length (rcells X) ∧ Below w.heap.size w w' := by
  refine (rrunes_any (Ru.enc X) w (encX_len hX)).mono ?_
  rintro e w' ⟨⟨v, rfl, hown⟩, hb⟩
  rw [Ru.runes_enc hv] at hown
  obtain ⟨A, c, rfl, _⟩ := own_shape hown
  exact ⟨A, c, rfl, Row.own hown, hb⟩
theorem textX (A : Option Addr) (n c : Nat) (hn : n = (Ru.enc X).length) (w : World) (hR : Row w w.heap.size 1 A n (bcells (Ru.enc X))) :
    Calls Tryd.prog 16 #[.slice A n c] w fun e w' => e = .returned (.string (bs (Ru.enc (X.map Ru.zr)))) ∧ Below w.heap.size w w' := by
  subst hn
  exact (text_any (Ru.enc X) A c w hR (encX_len hX)).mono fun _ _ ⟨he, hb⟩ => ⟨by rw [he, Ru.text, Ru.textR, Ru.runes_enc hv], hb⟩
end

set_option maxHeartbeats 8000000 in
set_option maxRecDepth 100000 in
theorem fold_law (l : List UInt8) (ws : List Nat) (A : Option Addr) (c : Nat) (w : World) (h1 : Row w w.heap.size 1 A ws.length (ucells ws)) (_hc : ws.length ≤ c) (hx : ∀ x ∈ ws, x ≤ 65535) (hT : Tabs w) (hk : l.length + ws.length ≤ 1048576) :
    Calls Tryd.prog 5 #[.string (bs l), .slice A ws.length c] w fun e w' => e = .returned (.bool true) ∧ Below w.heap.size w w' := by
  have hR := Lib.hid h1
  replace hT := Lib.hid hT
  replace hx := Lib.hid hx
  clear h1
  go_enter Tryd.func5, Tryd.ntmps5
  go_wp2_with fail
  go_loop [0, 5] (fun t i => ∃ (k : Nat) (T : List UInt8), k ≤ ws.length ∧ k ≤ 30 ∧ T.length ≤ l.length + 4 * k ∧ i = .int .i64 k ∧ t = .string (bs T))
    (fun _ i => ws.length - (intOf i).toNat)
  case atStart => exact ⟨0, l, Nat.zero_le _, Nat.zero_le _, Nat.le_refl _, rfl, rfl⟩
  case round =>
    obtain ⟨k, T, hk1, hk2, hTl, rfl, rfl⟩ := hrel
    by_cases hgo : k < ws.length ∧ k < 30
    · obtain ⟨hg1, hg2⟩ := hgo
      obtain ⟨b, o, rfl, hbb, hc⟩ := word_cell hR.out (by omega)
      have hcell : w.cell? ⟨b, o + k, none⟩ = some (.int .u16 (ws[k] : Int)) := hc k hg1
      have hlk := hx.out ws[k] (List.getElem_mem hg1)
      obtain ⟨x, hxk⟩ : ∃ x, x = ws[k] := ⟨_, rfl⟩
      rw [← hxk] at hcell hlk
      clear hxk hc
      obtain ⟨y, hy1, hy2⟩ := and127 x hlk
      have hcv := run_rune (y : Int) w
      have hl4 := (Ru.encodeRune_len (y : Int)).2
      obtain ⟨E, hE⟩ : ∃ E, E = Lib.encodeRune (y : Int) := ⟨_, rfl⟩
      rw [← hE] at hcv hl4
      clear hE
      have ha := bs_append T E
      have hs1 := bs_size T
      have hs2 := bs_size E
      have hs3 : T.length + E.length ≤ 2000000 := by omega
      go_wp2_with fail
      go_round
      case rel => exact ⟨k + 1, T ++ E, by omega, by omega, by rw [List.length_append]; omega, by go_num, rfl⟩
      case measure => simp [intOf]; omega
    · have hstop : ws.length ≤ k ∨ k < ws.length ∧ 30 ≤ k := by omega
      clear hgo
      have hTs : T.length ≤ 2000000 := by omega
      clear hTl hk
      obtain ⟨X, hXe⟩ : ∃ X, X = Ru.fold (Ru.runes T) := ⟨_, rfl⟩
      have hv : ∀ x ∈ X, Ru.vr x := by rw [hXe]; exact Ru.fold_vr (Ru.runes_vr T)
      have hck : Ru.chk 32 X = true := by rw [hXe]; exact Ru.fold_chk _
      have hla : X ≠ [] → Ru.lastD 32 X ≠ 32 := by rw [hXe]; exact Ru.fold_last _
      have hff : Ru.fold X = X := by rw [hXe]; exact Ru.fold_fold _
      have hXl : X.length ≤ (Ru.runes T).length := by rw [hXe]; exact Ru.fold_len _
      have hXb : X.length ≤ 2000000 := by have := Ru.runes_len T; omega
      replace hv := Lib.hid hv
      replace hck := Lib.hid hck
      replace hla := Lib.hid hla
      replace hff := Lib.hid hff
      replace hXe := Lib.hid hXe
      rcases hstop with hst | ⟨hst, hst2⟩
      all_goals
        go_wp2_with fail
        refine (fold_any T _ (by omega)).mono ?_
        rintro e w1 ⟨rfl, hb1⟩
        rw [← hXe.out]
        have hT1 := Lib.hid (tabs_ext hT.out hb1)
        replace hb1 := Lib.hid hb1
        obtain ⟨w0, rfl⟩ : ∃ w0 : World, w0 = w1 := ⟨_, rfl⟩
        go_wp2_with fail
        go_loopw [7, 9] (fun la _ wr => ∃ (pos : Nat) (D : List Nat), Hid (wr.heap[w0.heap.size]? = some (.stringIter (bs (Ru.enc X)) pos)) ∧ Hid (D ++ Ru.runes ((Ru.enc X).drop pos) = X) ∧ la = .int .i32 (Ru.lastD 32 D : Nat) ∧ Below w0.heap.size w0 wr)
          (fun _ _ wr => (Ru.enc X).length - wr.iterPos w0.heap.size)
        case atStart => exact ⟨0, [], Lib.hid (iter_new _ _ _ rfl), Lib.hid (Ru.runes_enc hv.out), rfl, ext_alloc _ _⟩
        case round =>
          obtain ⟨pos, D, hit, hD, rfl, hb⟩ := hrel
          have hD' : D ++ Ru.runes ((Ru.enc X).drop pos) = Ru.runes (Ru.enc X) := by rw [Ru.runes_enc hv.out]; exact hD.out
          replace hD' := Lib.hid hD'
          by_cases hp : pos < (Ru.enc X).length
          · obtain ⟨x, kk, hkk, hvx, hd, hD2⟩ := runes_next hp hD'.out
            have hnx := run_next_rune hit.out hp hd
            rw [Ru.runes_enc hv.out] at hD2
            have hok : Ru.okn (Ru.lastD 32 D) x = true := by
              have h3 := hck.out
              rw [← hD2, List.append_assoc, Ru.chk_app, Bool.and_eq_true] at h3
              have h4 := h3.2
              simp only [List.cons_append, List.nil_append, Ru.chk, Bool.and_eq_true] at h4
              exact h4.1
            have hlast : Ru.lastD 32 (D ++ [x]) = x := Ru.lastD_snoc _ _ _
            replace hD2 := Lib.hid hD2
            replace hd := Lib.hid hd
            replace hlast := Lib.hid hlast
            have hit2 := Lib.hid (Lib.iterAt_heap wr w0.heap.size (bs (Ru.enc X)) pos (pos + kk) hit.out)
            have hb2 := Lib.below_iterAt hb (k := w0.heap.size) (Nat.le_refl _) (bs (Ru.enc X)) (pos + kk)
            have hpos : Hid (wr.iterPos w0.heap.size = pos) := Lib.hid (by simp only [World.iterPos, hit.out])
            have hpos2 : Hid ((wr.iterAt w0.heap.size (bs (Ru.enc X)) (pos + kk)).iterPos w0.heap.size = pos + kk) := Lib.hid (by simp only [World.iterPos, hit2.out])
            obtain ⟨L, hL⟩ : ∃ L, L = Ru.lastD 32 D := ⟨_, rfl⟩
            rw [← hL] at hok
            rw [← hL]
            clear hL hvx
            have hcase : (x = 32 ∧ L ≠ 32) ∨ (blankB (x : Int) = false ∧ (x < 65 ∨ (65 ≤ x ∧ 90 < x))) := by
              unfold Ru.okn Ru.bl at hok
              cases hbx : blankB (x : Int) with
              | true => rw [hbx] at hok; simp at hok; exact .inl hok.1
              | false => rw [hbx] at hok; simp at hok; exact .inr ⟨rfl, by omega⟩
            clear hok
            rcases hcase with ⟨rfl, h32⟩ | ⟨hbx, hux | ⟨hux, hux2⟩⟩
            case' inl =>
              have hbx : blankB 32 = true := by decide
              have hL32 : ((L : Int) == 32) = false := by simp; omega
              replace h32 := Lib.hid h32
            all_goals
              go_wp2_with (go_at_call 12; refine (blank_any _ _).mono ?_; rintro e w' ⟨rfl, rfl⟩)
              go_roundw
              case rel => exact ⟨pos + kk, D ++ [_], hit2, hD2, (by rw [hlast.out]; try rfl), hb2⟩
              case measure => rw [hpos.out, hpos2.out]; omega
          · have hnx := run_next_done hit.out hp
            have hDe : D = X := by rw [runes_done hp hD'.out, Ru.runes_enc hv.out]
            clear hD hD'
            subst hDe
            obtain ⟨Z, hZ⟩ : ∃ Z, Z = D.map Ru.zr := ⟨_, rfl⟩
            have hvZ : Hid (∀ x ∈ Z, Ru.vr x) := Lib.hid (by rw [hZ]; exact Ru.map_zr_vr hv.out)
            have hZb : Z.length ≤ 2000000 := by rw [hZ, List.length_map]; exact hXb
            have htx := fun (A : Option Addr) (n c : Nat) (hn : n = (Ru.enc D).length) (w : World) (hR : Row w w.heap.size 1 A n (bcells (Ru.enc D))) => textX hv.out (by omega) A n c hn w hR
            rw [← hZ] at htx
            replace htx := Lib.hid htx
            have hrb := Lib.hid (run_bytes (Ru.enc D))
            replace hXl := Lib.hid hXl
            replace hZ := Lib.hid hZ
            have hb1' := Lib.hid (ext_trans hb1.out hb)
            have hT3 := Lib.hid (tabs_ext hT1.out hb)
            replace hit := hit.out
            clear hb hb1 hT1
            have hlast : D = [] ∨ (D ≠ [] ∧ Ru.lastD 32 D ≠ 32) := by
              by_cases h : D = []
              · exact .inl h
              · exact .inr ⟨h, hla.out h⟩
            have hdz : Hid (D = Z ∨ (D ≠ Z ∧ Ru.enc Z ≠ Ru.enc D)) := Lib.hid (by
              by_cases h : D = Z
              · exact .inl h
              · exact .inr ⟨h, fun h2 => h (Ru.enc_inj hvZ.out hv.out h2).symm⟩)
            obtain ⟨w4, rfl⟩ : ∃ w4 : World, w4 = wr := ⟨_, rfl⟩
            rcases hlast with hl0 | ⟨hl0, hl1⟩
            case' inl =>
              have hem : (bs (Ru.enc D)).toList = [] := by rw [bs_toList, hl0]; rfl
            case' inr =>
              have hem : (bs (Ru.enc D)).toList.isEmpty = false := by rw [bs_toList]; simpa [Ru.enc_eq_nil] using hl0
              have hln : (((Ru.lastD 32 D : Nat) : Int) != 32) = true := bne_iff_ne.2 (by omega)
              replace hl1 := Lib.hid hl1
            all_goals
              replace hl0 := Lib.hid hl0
              go_wp2_with fail
              refine (foldX hv.out (by omega) hff.out _).mono ?_
              rintro e w5 ⟨rfl, hb5⟩
              have hb5' := Lib.hid (ext_trans hb1'.out hb5)
              have hT5 := Lib.hid (tabs_ext hT3.out hb5)
              clear hb5
              go_wp2_with fail
              clear hem
              refine (countX hv.out (by omega) _).mono ?_
              rintro e w6 ⟨rfl, hb6⟩
              have hb6' := Lib.hid (ext_trans hb5'.out hb6)
              have hT6 := Lib.hid (tabs_ext hT5.out hb6)
              clear hb6
              go_wp2_with fail
              refine (count_any T _ (by omega)).mono ?_
              rintro e w7 ⟨rfl, hb7⟩
              have hb7' := Lib.hid (ext_trans hb6'.out hb7)
              have hT7 := Lib.hid (tabs_ext hT6.out hb7)
              have hle := hXl.out
              clear hb7
              go_wp2_with fail
              refine (rrunesX hv.out (by omega) _).mono ?_
              rintro e w8 ⟨A8, c8, rfl, hR8, hb8⟩
              have hb8' := Lib.hid (ext_trans hb7'.out hb8)
              have hT8 := Lib.hid (tabs_ext hT7.out hb8)
              replace hR8 := Lib.hid hR8
              clear hb8
              have hcv := hrb.out
              go_wp2_with fail
              refine (htx.out _ _ _ rfl _ (row_bytes w8 _)).mono ?_
              rintro e w9 ⟨rfl, hb9⟩
              have hb9s := ext_trans (below_bytes w8 _) hb9
              have hb9' := Lib.hid (ext_trans hb8'.out hb9s)
              have hT9 := Lib.hid (tabs_ext hT8.out hb9s)
              have hR9 := Lib.hid (hR8.out.ext hb9s)
              clear hb9 hb9s
              go_wp2_with fail
              refine (rrunesX hvZ.out (by omega) _).mono ?_
              rintro e w10 ⟨A10, c10, rfl, hR10, hb10⟩
              have hb10' := Lib.hid (ext_trans hb9'.out hb10)
              have hT10 := Lib.hid (tabs_ext hT9.out hb10)
              have hR9' := Lib.hid (hR9.out.ext hb10)
              replace hR10 := Lib.hid hR10
              clear hb10
              go_wp2_with fail
              refine (sames_any D Z _ _ _ _ _ hR9'.out hR10.out (by omega)).mono ?_
              rintro e w11 ⟨rfl, hb11⟩
              have hb11' := Lib.hid (ext_trans hb10'.out hb11)
              have hT11 := Lib.hid (tabs_ext hT10.out hb11)
              clear hb11
              go_wp2_with fail
              refine (htx.out _ _ _ rfl _ (row_bytes w11 _)).mono ?_
              rintro e w12 ⟨rfl, hb12⟩
              have hb12s := ext_trans (below_bytes w11 _) hb12
              have hb12' := Lib.hid (ext_trans hb11'.out hb12s)
              have hT12 := Lib.hid (tabs_ext hT11.out hb12s)
              clear hb12 hb12s
              rcases hdz.out with hq | ⟨hq, hq2⟩
              case' inl =>
                have hdec : decide (D = Z) = true := decide_eq_true hq
                have hstr := bs_eq (congrArg Ru.enc hq.symm)
              case' inr =>
                have hdec : decide (D = Z) = false := decide_eq_false hq
                have hstr := bs_ne hq2
                replace hq2 := Lib.hid hq2
              all_goals
                replace hq := Lib.hid hq
                rw [hdec]
                go_wp2_with fail
                refine (known_any _ hT12.out).mono ?_
                rintro e w13 ⟨rfl, hb13⟩
                go_wp2
                go_ret
                exact ⟨rfl, ext_trans hb12'.out hb13⟩
end Go.Proofs.YtlpjpgcdcigihaaDoor
