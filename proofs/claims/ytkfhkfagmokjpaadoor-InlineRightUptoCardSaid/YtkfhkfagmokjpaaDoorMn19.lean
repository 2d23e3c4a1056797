/- InlineRight: a row is as rows are, of whatever text; a text without signs is itself. InlineNested: words that are stressed are told so, whichever sign does it; code is told as it stands. -/
import Derived.Test.YtkfhkfagmokjpaaDoorMn17
import Derived.Test.YtkfhkfagmokjpaaDoorMn13
import Derived.Test.YtkfhkfagmokjpaaDoorMn07
import Derived.Test.YtkfhkfagmokjpaaDoorMn10
namespace Go.Proofs.YtkfhkfagmokjpaaDoor
open Go.RowKit

theorem il_run_rune (r : Int) (w : World) : (convert 21 9 (.int .i32 r)).run Tryd.prog w = .ok (.string (bs (Lib.encodeRune r))) w := by
  rw [run_convert_int_string w 21 9 .i32 r (by kernel_rfl) Tryd.underlying9, Ru.encode_eq]
  rfl
/-- a row that is given back stays, in whatever comes behind -/
theorem il_stay {w w1 : World} {A : Option Addr} {n c : Nat} {css : List (List Value)} {ts : List Il.In} (ho : w1.ownsRow w.heap.size 30 4 (.slice A n c) n css.flatten) (hI : ICs w1 (fun b => w.heap.size ≤ b ∧ b < w1.heap.size) ts css) {wz : World} (hb : Below w1.heap.size w1 wz) :
    RowI wz (fun b => b < wz.heap.size) 4 A n css.flatten ∧ ICs wz (fun b => b < wz.heap.size) ts css :=
  ⟨(own_rowI ho).frame (fun b h => hb.block b h.2) (fun _ h => Nat.lt_of_lt_of_le h.2 hb.size), ICs_frame (fun b h => hb.block b h.2) (fun _ h => Nat.lt_of_lt_of_le h.2 hb.size) hI⟩

set_option maxHeartbeats 8000000 in
set_option maxRecDepth 100000 in
theorem ilright_any (hP : PParse) (hX : PText) (s ks : List UInt8) (ws : List Nat) (A : Option Addr) (c : Nat) (A2 : Option Addr) (c2 : Nat) (w : World) (h : Row w w.heap.size 1 A ks.length (bcells ks)) (h2 : Row w w.heap.size 1 A2 ws.length (ucells ws))
    (hs : s.length ≤ 2000000) (hk : ks.length ≤ 9223372036854775807) (hl : ws.length ≤ 9223372036854775807) (hx : ∀ x ∈ ws, x ≤ 65535) (hTb : Tabs w) :
    Calls Tryd.prog 3 #[.string (bs s), .slice A ks.length c, .slice A2 ws.length c2] w fun e w' => e = .returned (.bool true) ∧ Below w.heap.size w w' := by
  have hzs := bs_size s
  have hR := Lib.hid h
  have hR2 := Lib.hid h2
  replace hx := Lib.hid hx
  have hTt := Lib.hid (fun w' (hb : Below w.heap.size w w') => tabs_below hTb hb)
  have hK := Lib.hid (fun w t => ilknown_any hP hX w t)
  replace hX := Lib.hid hX
  replace hP := Lib.hid hP
  clear h h2 hTb
  go_enter Tryd.func3, Tryd.ntmps3
  go_wp2_with fail
  go_loop [7, 8] (fun t i => ∃ (k : Nat) (V : List Nat), k ≤ ws.length ∧ k ≤ 30 ∧ V.length ≤ k ∧ Hid (∀ x ∈ V, Ru.vr x ∧ 128 ≤ x) ∧ i = .int .i64 k ∧ t = .string (bs (Ru.enc V))) (fun _ i => ws.length - (intOf i).toNat)
  case atStart => exact ⟨0, [], Nat.zero_le _, Nat.zero_le _, Nat.zero_le _, Lib.hid (by simp), rfl, rfl⟩
  case round =>
    obtain ⟨k, V, hk1, hk2, hVl, hV, rfl, rfl⟩ := hrel
    have hVe := (Ru.enc_len V).2
    by_cases hgo : k < ws.length ∧ k < 30
    · obtain ⟨hg1, hg2⟩ := hgo
      obtain ⟨b, o, rfl, hbb, hc⟩ := word_cell hR2.out (by omega)
      have hcell : w.cell? ⟨b, o + k, none⟩ = some (.int .u16 (ws[k] : Int)) := hc k hg1
      have hlk := hx.out ws[k] (List.getElem_mem hg1)
      obtain ⟨x, hxk⟩ : ∃ x, x = ws[k] := ⟨_, rfl⟩
      rw [← hxk] at hcell hlk
      clear hxk hc
      by_cases hin : 512 < x ∧ x < 53248
      · obtain ⟨hi1, hi2⟩ := hin
        have hcv := fun w => il_run_rune (x : Int) w
        have hl4 := (Ru.encodeRune_len (x : Int)).2
        have hex : Lib.encodeRune (x : Int) = Ru.enc [x] := by simp [Ru.enc]
        rw [hex] at hcv hl4
        have ha := bs_append (Ru.enc V) (Ru.enc [x])
        rw [← Ru.enc_append] at ha
        have hs1 := bs_size (Ru.enc V)
        have hs2 := bs_size (Ru.enc [x])
        have hV2 : Hid (∀ z ∈ V ++ [x], Ru.vr z ∧ 128 ≤ z) := Lib.hid (by
          intro z hz
          rcases List.mem_append.1 hz with h | h
          · exact hV.out z h
          · obtain rfl : z = x := by simpa using h
            exact ⟨by unfold Ru.vr; omega, by omega⟩)
        obtain ⟨xi, hxi⟩ : ∃ xi : Int, xi = (x : Int) := ⟨_, rfl⟩
        have t1 : (512 : Int) < xi := by omega
        have t2 : xi < 53248 := by omega
        rw [← hxi] at hcell hcv
        clear hex
        replace hxi := Lib.hid hxi
        replace hi1 := Lib.hid hi1
        replace hi2 := Lib.hid hi2
        replace hlk := Lib.hid hlk
        go_wp2_with fail
        go_round
        case rel => exact ⟨k + 1, V ++ [x], by omega, by omega, by simp; omega, hV2, by go_num, rfl⟩
        case measure => simp [intOf]; omega
      · have hout : x ≤ 512 ∨ (512 < x ∧ 53248 ≤ x) := by omega
        clear hin
        rcases hout with ho | ⟨ho, ho2⟩
        · obtain ⟨xi, hxi⟩ : ∃ xi : Int, xi = (x : Int) := ⟨_, rfl⟩
          have t0 : (0 : Int) ≤ xi := by omega
          have t1 : xi ≤ (512 : Int) := by omega
          rw [← hxi] at hcell
          clear ho hlk hxi
          go_wp2_with fail
          go_round
          case rel => exact ⟨k + 1, V, by omega, by omega, by omega, hV, by go_num, rfl⟩
          case measure => simp [intOf]; omega
        · obtain ⟨xi, hxi⟩ : ∃ xi : Int, xi = (x : Int) := ⟨_, rfl⟩
          have t1 : (512 : Int) < xi := by omega
          have t2 : (53248 : Int) ≤ xi := by omega
          have t3 : xi ≤ 65535 := by omega
          rw [← hxi] at hcell
          clear ho ho2 hlk hxi
          go_wp2_with fail
          go_round
          case rel => exact ⟨k + 1, V, by omega, by omega, by omega, hV, by go_num, rfl⟩
          case measure => simp [intOf]; omega
    · have hstop : ws.length ≤ k ∨ k < ws.length ∧ 30 ≤ k := by omega
      clear hgo
      have hpp := Il.parse_plain hV.out
      have hTl : (Ru.enc V).length ≤ 120 := by omega
      have hV0 : V = [] ∨ (V ≠ [] ∧ Ru.enc V ≠ []) := by
        by_cases h0 : V = []
        · exact .inl h0
        · exact .inr ⟨h0, fun h => h0 (Ru.enc_eq_nil.1 h)⟩
      obtain ⟨T, hT⟩ : ∃ T, T = Ru.enc V := ⟨_, rfl⟩
      rw [← hT] at hpp hTl hV0 ⊢
      have hTs := bs_size T
      have q1 := fun w h => hP.out T w (by omega) h
      obtain ⟨fs1, fs2, fs3⟩ := Il.parse_ok s (by omega)
      have fs4 := Il.parse_right (s := s) (by omega)
      have q2 := fun w h => hP.out s w (by omega) h
      have ht3 := md_all ks
      have hmk := Lib.hid (fun w h => made_fn ks A c w h hk)
      obtain ⟨M, hMM⟩ : ∃ T, T = md 28 ks := ⟨_, rfl⟩
      rw [← hMM] at hmk ht3
      obtain ⟨fm1, fm2, fm3⟩ := Il.parse_ok M (by omega)
      have fm4 := Il.parse_right (s := M) (by omega)
      have q3 := fun w h => hP.out M w (by omega) h
      obtain ⟨XS, hXS⟩ : ∃ X, X = Il.parse s := ⟨_, rfl⟩
      obtain ⟨XM, hXM⟩ : ∃ X, X = Il.parse M := ⟨_, rfl⟩
      rw [← hXS] at fs1 fs2 fs3 fs4 q2
      rw [← hXM] at fm1 fm2 fm3 fm4 q3
      clear hXS hXM hMM hVe hV
      replace hT := Lib.hid hT
      replace q1 := Lib.hid q1
      replace q2 := Lib.hid q2
      replace q3 := Lib.hid q3
      replace fs1 := Lib.hid fs1
      replace fs4 := Lib.hid fs4
      replace fm1 := Lib.hid fm1
      replace fm4 := Lib.hid fm4
      have hRx : Hid (∀ wz, Below w.heap.size w wz → Row wz wz.heap.size 1 A ks.length (bcells ks)) := Lib.hid (fun wz hz => hR.out.ext hz)
      have hfirst : ∀ (X : List Il.In), Il.parse T = X → (∀ t ∈ X, Il.Few t) → X.length ≤ 1 → Il.txts X = T → True := fun _ _ _ _ _ => trivial
      clear hfirst
      rcases hV0 with h0 | ⟨h0, h1⟩
      · rw [if_pos h0] at hpp
        have hT0 : T = [] := by rw [hT.out, h0]; rfl
        rw [hpp] at q1
        clear hT h0 hpp
        subst hT0
        have e0 : ((bs ([] : List UInt8)).toList == []) = true := by rw [bs_toList]; rfl
        rcases hstop with hst | ⟨hst, hst2⟩
        all_goals
          go_wp2_with fail
          refine (q1.out _ (hTt.out _ (Below.refl _ _))).mono ?_
          rintro e w1 ⟨⟨v1, rfl, c1, ho1, hI1⟩, hb1⟩
          obtain ⟨A1, k1, rfl, hk1'⟩ := own_shape ho1
          have hst1 := Lib.hid (fun wz hb => il_stay ho1 hI1 (wz := wz) hb)
          have hB1 := Lib.hid hb1
          clear ho1 hI1 hb1
          simp only [List.length_nil] at hst1 ⊢
          go_wp2_with fail
          refine (q2.out _ (hTt.out _ hB1.out)).mono ?_
          rintro e w2 ⟨⟨v2, rfl, c2', ho2, hI2⟩, hb2⟩
          obtain ⟨A2', k2, rfl, hk2'⟩ := own_shape ho2
          obtain ⟨hRr, hIr⟩ := il_stay ho2 hI2 (Below.refl _ _)
          have hC2 := Lib.hid hb2
          have hB2 := Lib.hid (ext_trans hB1.out hb2)
          replace hRr := Lib.hid hRr
          replace hIr := Lib.hid hIr
          clear ho2 hI2 hb2
          go_wp2_with fail
          refine (right_any _ XS (Nat.le_refl _) fs1.out fs2 false fs4.out A2' k2 c2' w2 _ (fun _ h => h) hRr.out hIr.out).mono ?_
          rintro e w3 ⟨rfl, hb3⟩
          have hC3 := Lib.hid (ext_trans hC2.out hb3)
          have hB3 := Lib.hid (ext_trans hB2.out hb3)
          clear hRr hIr hb3 hC2 hB2
          go_wp2_with fail
          refine (hmk.out _ (hRx.out _ hB3.out)).mono ?_
          rintro e w4 ⟨rfl, hb4⟩
          have hC4 := Lib.hid (ext_trans hC3.out hb4)
          have hB4 := Lib.hid (ext_trans hB3.out hb4)
          clear hb4 hC3 hB3
          go_wp2_with fail
          refine (q3.out _ (hTt.out _ hB4.out)).mono ?_
          rintro e w5 ⟨⟨v5, rfl, c5, ho5, hI5⟩, hb5⟩
          obtain ⟨A5, k5, rfl, hk5⟩ := own_shape ho5
          obtain ⟨hRr, hIr⟩ := il_stay ho5 hI5 (Below.refl _ _)
          have hC5 := Lib.hid (ext_trans hC4.out hb5)
          have hB5 := Lib.hid (ext_trans hB4.out hb5)
          replace hRr := Lib.hid hRr
          replace hIr := Lib.hid hIr
          clear ho5 hI5 hb5 hC4 hB4
          go_wp2_with fail
          refine (right_any _ XM (Nat.le_refl _) fm1.out fm2 false fm4.out A5 k5 c5 w5 _ (fun _ h => h) hRr.out hIr.out).mono ?_
          rintro e w6 ⟨rfl, hb6⟩
          have hC6 := Lib.hid (ext_trans hC5.out hb6)
          have hB6 := Lib.hid (ext_trans hB5.out hb6)
          clear hRr hIr hb6 hC5 hB5
          go_wp2_with fail
          obtain ⟨hRr, hIr⟩ := hst1.out _ hC6.out
          refine (hX.out [] (by simp [Il.masses]) (by simp) (by simp) (by simp [Il.txts]) A1 k1 c1 w6 _ (fun _ h => h) hRr hIr).mono ?_
          rintro e w7 ⟨rfl, hb7⟩
          have hB7 := Lib.hid (ext_trans hB6.out hb7)
          have e1 : ((bs (Il.txts [])).toList == (bs ([] : List UInt8)).toList) = true := by rw [bs_toList, bs_toList]; rfl
          clear hRr hIr hb7 hB6
          go_wp2_with fail
          refine (hK.out _ (hTt.out _ hB7.out)).mono ?_
          rintro e w8 ⟨rfl, hb8⟩
          have hB8 := Lib.hid (ext_trans hB7.out hb8)
          go_wp2_with fail
          go_ret
          exact ⟨rfl, hB8.out⟩
      · rw [if_neg h0] at hpp
        rw [hpp] at q1
        have e0 := low_text_ne h1
        have e3 := bs_eq (a := T) (b := T) rfl
        have e4 : Il.txts [Il.word T] = T := by simp [Il.txts, Il.txt, Il.word]
        replace e4 := Lib.hid e4
        replace h0 := Lib.hid h0
        replace h1 := Lib.hid h1
        clear hT hpp
        rcases hstop with hst | ⟨hst, hst2⟩
        all_goals
          go_wp2_with fail
          refine (q1.out _ (hTt.out _ (Below.refl _ _))).mono ?_
          rintro e w1 ⟨⟨v1, rfl, c1, ho1, hI1⟩, hb1⟩
          obtain ⟨A1, k1, rfl, hk1'⟩ := own_shape ho1
          have hst1 := Lib.hid (fun wz hb => il_stay ho1 hI1 (wz := wz) hb)
          have hB1 := Lib.hid hb1
          clear ho1 hI1 hb1
          simp only [List.length_cons, List.length_nil, Nat.zero_add] at hst1 ⊢
          go_wp2_with fail
          refine (q2.out _ (hTt.out _ hB1.out)).mono ?_
          rintro e w2 ⟨⟨v2, rfl, c2', ho2, hI2⟩, hb2⟩
          obtain ⟨A2', k2, rfl, hk2'⟩ := own_shape ho2
          obtain ⟨hRr, hIr⟩ := il_stay ho2 hI2 (Below.refl _ _)
          have hC2 := Lib.hid hb2
          have hB2 := Lib.hid (ext_trans hB1.out hb2)
          replace hRr := Lib.hid hRr
          replace hIr := Lib.hid hIr
          clear ho2 hI2 hb2
          go_wp2_with fail
          refine (right_any _ XS (Nat.le_refl _) fs1.out fs2 false fs4.out A2' k2 c2' w2 _ (fun _ h => h) hRr.out hIr.out).mono ?_
          rintro e w3 ⟨rfl, hb3⟩
          have hC3 := Lib.hid (ext_trans hC2.out hb3)
          have hB3 := Lib.hid (ext_trans hB2.out hb3)
          clear hRr hIr hb3 hC2 hB2
          go_wp2_with fail
          refine (hmk.out _ (hRx.out _ hB3.out)).mono ?_
          rintro e w4 ⟨rfl, hb4⟩
          have hC4 := Lib.hid (ext_trans hC3.out hb4)
          have hB4 := Lib.hid (ext_trans hB3.out hb4)
          clear hb4 hC3 hB3
          go_wp2_with fail
          refine (q3.out _ (hTt.out _ hB4.out)).mono ?_
          rintro e w5 ⟨⟨v5, rfl, c5, ho5, hI5⟩, hb5⟩
          obtain ⟨A5, k5, rfl, hk5⟩ := own_shape ho5
          obtain ⟨hRr, hIr⟩ := il_stay ho5 hI5 (Below.refl _ _)
          have hC5 := Lib.hid (ext_trans hC4.out hb5)
          have hB5 := Lib.hid (ext_trans hB4.out hb5)
          replace hRr := Lib.hid hRr
          replace hIr := Lib.hid hIr
          clear ho5 hI5 hb5 hC4 hB4
          go_wp2_with fail
          refine (right_any _ XM (Nat.le_refl _) fm1.out fm2 false fm4.out A5 k5 c5 w5 _ (fun _ h => h) hRr.out hIr.out).mono ?_
          rintro e w6 ⟨rfl, hb6⟩
          have hC6 := Lib.hid (ext_trans hC5.out hb6)
          have hB6 := Lib.hid (ext_trans hB5.out hb6)
          clear hRr hIr hb6 hC5 hB5
          obtain ⟨hRr, hIr⟩ := hst1.out _ hC6.out
          obtain ⟨g1, o1, rfl, hg1, hcl⟩ := hRr.2 (by omega)
          obtain ⟨cs, i1, i2⟩ := ICs_at hIr (k := 0) (by simp)
          obtain ⟨A7, k7, c7, rfl, _⟩ := IC_form i1
          have x0 := hcl _ _ (i2 0 (by omega))
          have x1 := hcl _ _ (i2 1 (by omega))
          simp only [Nat.zero_mul, Nat.zero_add, Nat.add_zero] at x0 x1
          replace hRr := Lib.hid hRr
          replace hIr := Lib.hid hIr
          clear hcl i1 i2
          go_wp2_with fail
          refine (hX.out [Il.word T] (by simp only [Il.word, Il.masses, Il.mass, List.length_nil]; have := hTl; omega) (fun t ht => by obtain rfl := List.mem_singleton.1 ht; exact Il.few_bare (by omega) _ _) (by simp) (by rw [e4.out]; omega) _ k1 c1 w6 _ (fun _ h => h) hRr.out hIr.out).mono ?_
          rw [e4.out]
          rintro e w7 ⟨rfl, hb7⟩
          have hB7 := Lib.hid (ext_trans hB6.out hb7)
          clear hRr hIr hb7 hB6 x0 x1
          go_wp2_with fail
          refine (hK.out _ (hTt.out _ hB7.out)).mono ?_
          rintro e w8 ⟨rfl, hb8⟩
          have hB8 := Lib.hid (ext_trans hB7.out hb8)
          go_wp2_with fail
          go_ret
          exact ⟨rfl, hB8.out⟩
end Go.Proofs.YtkfhkfagmokjpaaDoor

namespace Go.Proofs.YtkfhkfagmokjpaaDoor
open Go.RowKit

theorem il_letter (r : Nat) (h : r < 26) : Lib.encodeRune (97 + (r : Int)) = [UInt8.ofNat (97 + r)] ∧ Lk.small (UInt8.ofNat (97 + r)) = true := by
  have h1 : (97 + (r : Int)) = (((97 + r : Nat)) : Int) := by omega
  refine ⟨?_, ?_⟩
  · rw [h1, Lib.encodeRune, Lib.encodeRuneZ_one (by omega) (by omega)]; rfl
  · rw [Lk.small_iff]
    have : (UInt8.ofNat (97 + r)).toNat = 97 + r := by simp; omega
    omega
theorem il_few_word (W : List UInt8) (k : Nat) (hk : k ≤ 1000) : ∀ t ∈ [Il.In.mk k [] [] [Il.word W]], Il.Few t := by
  intro t ht
  obtain rfl := List.mem_singleton.1 ht
  exact .mk hk (by simp) (fun x hx => by obtain rfl := List.mem_singleton.1 hx; exact Il.few_bare (by omega) _ _)
theorem il_one {w : World} {Q : Nat → Prop} {A : Option Addr} {css : List (List Value)} {t : Il.In} (h : RowI w Q 4 A [t].length css.flatten) (hI : ICs w Q [t] css) : ∃ g o cs, A = some ⟨g, o, none⟩ ∧ IC w Q t cs ∧ ∀ j, j < 4 → w.cell? ⟨g, o + j, none⟩ = cs[j]? := by
  obtain ⟨g, o, e, _, hc⟩ := h.2 (by simp)
  obtain ⟨cs, i1, i2⟩ := ICs_at hI (k := 0) (by simp)
  refine ⟨g, o, cs, e, i1, fun j hj => ?_⟩
  have hl := IC_length i1
  have h3 := i2 j hj
  rw [Nat.zero_mul, Nat.zero_add] at h3
  have h4 : cs[j]? = some (cs[j]'(by omega)) := List.getElem?_eq_getElem (by omega)
  rw [h4] at h3 ⊢
  exact hc j _ h3

set_option maxHeartbeats 16000000 in
set_option maxRecDepth 100000 in
theorem ilnested_star (hP : PParse) (hX : PText) (ws : List Nat) (A2 : Option Addr) (c2 : Nat) (w : World) (h2 : Row w w.heap.size 1 A2 ws.length (ucells ws)) (hl : ws.length ≤ 9223372036854775807) (hx : ∀ x ∈ ws, x ≤ 65535) (hTb : Tabs w) :
    Calls Tryd.prog 4 #[.bool false, .slice A2 ws.length c2] w fun e w' => e = .returned (.bool true) ∧ Below w.heap.size w w' := by
  have hR2 := Lib.hid h2
  replace hx := Lib.hid hx
  have hTt := Lib.hid (fun w' (hb : Below w.heap.size w w') => tabs_below hTb hb)
  have hK := Lib.hid (fun w t => ilknown_any hP hX w t)
  clear hX
  replace hP := Lib.hid hP
  clear h2 hTb
  go_enter Tryd.func4, Tryd.ntmps4
  go_wp2_with fail
  go_loop [5, 6] (fun t i => ∃ (k : Nat) (V : List UInt8), k ≤ ws.length ∧ k ≤ 12 ∧ V.length ≤ k ∧ Hid (∀ b ∈ 119 :: V, Lk.small b = true) ∧ i = .int .i64 k ∧ t = .string (bs (119 :: V))) (fun _ i => ws.length - (intOf i).toNat)
  case atStart => exact ⟨0, [], Nat.zero_le _, Nat.zero_le _, Nat.zero_le _, Lib.hid (by decide), rfl, rfl⟩
  case round =>
    obtain ⟨k, V, hk1, hk2, hVl, hV, rfl, rfl⟩ := hrel
    by_cases hgo : k < ws.length ∧ k < 12
    · obtain ⟨hg1, hg2⟩ := hgo
      obtain ⟨b, o, rfl, hbb, hc⟩ := word_cell hR2.out (by omega)
      have hcell : w.cell? ⟨b, o + k, none⟩ = some (.int .u16 (ws[k] : Int)) := hc k hg1
      have hlk := hx.out ws[k] (List.getElem_mem hg1)
      obtain ⟨xi, hxi⟩ : ∃ xi : Int, xi = (ws[k] : Int) := ⟨_, rfl⟩
      rw [← hxi] at hcell
      obtain ⟨r, hr⟩ : ∃ r, r = ws[k] % 26 := ⟨_, rfl⟩
      have hr26 : r < 26 := by rw [hr]; exact Nat.mod_lt _ (by omega)
      have hm1 : xi % 26 = (r : Int) := by omega
      have hm2 : xi.tmod 26 = (r : Int) := by rw [Int.tmod_eq_emod_of_nonneg (by omega)]; exact hm1
      have hw1 : IntKind.u16.wrap (97 + (r : Int)) = 97 + (r : Int) := by unfold IntKind.wrap; simp [IntKind.bits, IntKind.signed]; omega
      have hw2 : IntKind.u16.wrap (r : Int) = (r : Int) := by unfold IntKind.wrap; simp [IntKind.bits, IntKind.signed]; omega
      have hcv := fun w => il_run_rune (97 + (r : Int)) w
      obtain ⟨hl1, hl2⟩ := il_letter r hr26
      rw [hl1] at hcv
      obtain ⟨d, hd⟩ : ∃ d, d = UInt8.ofNat (97 + r) := ⟨_, rfl⟩
      rw [← hd] at hcv hl2
      have hV2 : Hid (∀ z ∈ 119 :: (V ++ [d]), Lk.small z = true) := Lib.hid (by
        intro z hz
        rw [← List.cons_append] at hz
        rcases List.mem_append.1 hz with h | h
        · exact hV.out z h
        · obtain rfl := List.mem_singleton.1 h; exact hl2)
      have ha : bs (119 :: V) ++ bs [d] = bs (119 :: (V ++ [d])) := bs_append (119 :: V) [d]
      have hs1 := bs_size (119 :: V)
      have hs2 := bs_size [d]
      rw [List.length_cons] at hs1
      simp only [List.length_cons, List.length_nil] at hs2
      replace hl1 := Lib.hid hl1
      replace hxi := Lib.hid hxi
      clear hc hlk hr hd hl2
      go_wp2_with fail
      go_round
      case rel => exact ⟨k + 1, V ++ [d], by omega, by omega, by simp; omega, hV2, by go_num, rfl⟩
      case measure => simp [intOf]; omega
    · have hstop : ws.length ≤ k ∨ k < ws.length ∧ 12 ≤ k := by omega
      clear hgo
      have hc42 : (42 : UInt8) = 42 ∨ (42 : UInt8) = 95 := by decide
      have p1 : Il.parse (Il.stressed 42 1 (119 :: V)) = [.mk 2 [] [] [Il.word (119 :: V)]] := Il.within_stressed false Il.inLink hc42 (.inl rfl) hV.out
      have p2 : Il.parse (Il.stressed 42 2 (119 :: V)) = [.mk 3 [] [] [Il.word (119 :: V)]] := Il.within_stressed false Il.inLink hc42 (.inr rfl) hV.out
      have p0 : Il.inLink (Il.stressed 42 1 (119 :: V)) = [.mk 2 [] [] [Il.word (119 :: V)]] := Il.within_stressed true (fun _ => []) hc42 (.inl rfl) hV.out
      have hall : ∀ b ∈ Il.stressed 42 1 (119 :: V), b.toNat < 128 ∧ b ≠ 96 ∧ b ≠ 60 ∧ b ≠ 91 ∧ b ≠ 93 ∧ b ≠ 92 ∧ b ≠ 10 ∧ b ≠ 32 := by
        intro b hb
        unfold Il.stressed at hb
        simp only [List.mem_append, List.mem_replicate] at hb
        rcases hb with ⟨_, rfl⟩ | hb | ⟨_, rfl⟩
        · decide
        · have h1 := (Lk.small_iff b).1 (hV.out b hb)
          refine ⟨by omega, ?_, ?_, ?_, ?_, ?_, ?_, ?_⟩ <;> (intro e; rw [e] at h1; revert h1; decide)
        · decide
      have hS1l := Il.stressed_len 42 1 (119 :: V)
      have p3 : Il.parse (96 :: (Il.stressed 42 1 (119 :: V) ++ [96])) = [.mk 1 (Il.stressed 42 1 (119 :: V)) [] []] := Il.parse_code (fun b hb => ⟨(hall b hb).2.1, (hall b hb).2.2.2.2.2.2.1, (hall b hb).2.2.2.2.2.2.2⟩) (by omega)
      have p4 : Il.parse (Il.linked (Il.stressed 42 1 (119 :: V)) (119 :: V)) = [.mk 4 [] (119 :: V) (Il.inLink (Il.stressed 42 1 (119 :: V)))] := Il.parse_linked (fun b hb => ⟨(hall b hb).1, (hall b hb).2.1, (hall b hb).2.2.1, (hall b hb).2.2.2.1, (hall b hb).2.2.2.2.1, (hall b hb).2.2.2.2.2.1⟩) hV.out
      rw [p0] at p4
      have hS2l := Il.stressed_len 42 2 (119 :: V)
      have hS4l := Il.linked_len (Il.stressed 42 1 (119 :: V)) (119 :: V)
      have hWl : (119 :: V).length ≤ 13 := by rw [List.length_cons]; omega
      have hW0 := bs_size (119 :: V)
      obtain ⟨L1, f1⟩ : ∃ L : List UInt8, L = [42] ++ (119 :: V) := ⟨_, rfl⟩
      obtain ⟨L2, f2⟩ : ∃ L : List UInt8, L = [42, 42] ++ (119 :: V) := ⟨_, rfl⟩
      obtain ⟨L3, f3⟩ : ∃ L : List UInt8, L = L2 ++ [42] := ⟨_, rfl⟩
      obtain ⟨L4, f4⟩ : ∃ L : List UInt8, L = [96, 42] ++ (119 :: V) := ⟨_, rfl⟩
      obtain ⟨L5, f5⟩ : ∃ L : List UInt8, L = L4 ++ [42] := ⟨_, rfl⟩
      obtain ⟨L6, f6⟩ : ∃ L : List UInt8, L = [91, 42] ++ (119 :: V) := ⟨_, rfl⟩
      obtain ⟨L7, f7⟩ : ∃ L : List UInt8, L = L6 ++ [42] := ⟨_, rfl⟩
      obtain ⟨L8, f8⟩ : ∃ L : List UInt8, L = L7 ++ [93, 40] := ⟨_, rfl⟩
      obtain ⟨L9, f9⟩ : ∃ L : List UInt8, L = L8 ++ (119 :: V) := ⟨_, rfl⟩
      obtain ⟨S1, s1⟩ : ∃ L : List UInt8, L = Il.stressed 42 1 (119 :: V) := ⟨_, rfl⟩
      obtain ⟨S2, s2⟩ : ∃ L : List UInt8, L = Il.stressed 42 2 (119 :: V) := ⟨_, rfl⟩
      obtain ⟨S3, s3⟩ : ∃ L : List UInt8, L = 96 :: (S1 ++ [96]) := ⟨_, rfl⟩
      obtain ⟨S4, s4⟩ : ∃ L : List UInt8, L = Il.linked S1 (119 :: V) := ⟨_, rfl⟩
      have e1 : (⟨#[42]⟩ : ByteArray) ++ bs (119 :: V) = bs L1 := by rw [f1]; exact bs_append [42] _
      have e2 : bs L1 ++ (⟨#[42]⟩ : ByteArray) = bs S1 := by rw [show S1 = L1 ++ [42] from by rw [s1, f1]; simp [Il.stressed]]; exact bs_append L1 [42]
      have e3 : (⟨#[42]⟩ : ByteArray) ++ (⟨#[42]⟩ : ByteArray) = ⟨#[42, 42]⟩ := rfl
      have e4 : (⟨#[42, 42]⟩ : ByteArray) ++ bs (119 :: V) = bs L2 := by rw [f2]; exact bs_append [42, 42] _
      have e5 : bs L2 ++ (⟨#[42]⟩ : ByteArray) = bs L3 := by rw [f3]; exact bs_append L2 [42]
      have e6 : bs L3 ++ (⟨#[42]⟩ : ByteArray) = bs S2 := by rw [show S2 = L3 ++ [42] from by rw [s2, f3, f2]; simp [Il.stressed, List.replicate]]; exact bs_append L3 [42]
      have e7 : (⟨#[96]⟩ : ByteArray) ++ (⟨#[42]⟩ : ByteArray) = ⟨#[96, 42]⟩ := rfl
      have e8 : (⟨#[96, 42]⟩ : ByteArray) ++ bs (119 :: V) = bs L4 := by rw [f4]; exact bs_append [96, 42] _
      have e9 : bs L4 ++ (⟨#[42]⟩ : ByteArray) = bs L5 := by rw [f5]; exact bs_append L4 [42]
      have e10 : bs L5 ++ (⟨#[96]⟩ : ByteArray) = bs S3 := by rw [show S3 = L5 ++ [96] from by rw [s3, s1, f5, f4]; simp [Il.stressed]]; exact bs_append L5 [96]
      have e11 : (⟨#[91]⟩ : ByteArray) ++ (⟨#[42]⟩ : ByteArray) = ⟨#[91, 42]⟩ := rfl
      have e12 : (⟨#[91, 42]⟩ : ByteArray) ++ bs (119 :: V) = bs L6 := by rw [f6]; exact bs_append [91, 42] _
      have e13 : bs L6 ++ (⟨#[42]⟩ : ByteArray) = bs L7 := by rw [f7]; exact bs_append L6 [42]
      have e14 : bs L7 ++ (⟨#[93, 40]⟩ : ByteArray) = bs L8 := by rw [f8]; exact bs_append L7 [93, 40]
      have e15 : bs L8 ++ bs (119 :: V) = bs L9 := by rw [f9]; exact bs_append L8 _
      have e16 : bs L9 ++ (⟨#[41]⟩ : ByteArray) = bs S4 := by rw [show S4 = L9 ++ [41] from by rw [s4, s1, f9, f8, f7, f6]; simp [Il.stressed, Il.linked]]; exact bs_append L9 [41]
      have l1 : L1.length ≤ 20 := by rw [f1]; simp; omega
      have l2 : L2.length ≤ 20 := by rw [f2]; simp; omega
      have l3 : L3.length ≤ 30 := by rw [f3]; simp; omega
      have l4 : L4.length ≤ 20 := by rw [f4]; simp; omega
      have l5 : L5.length ≤ 30 := by rw [f5]; simp; omega
      have l6 : L6.length ≤ 20 := by rw [f6]; simp; omega
      have l7 : L7.length ≤ 30 := by rw [f7]; simp; omega
      have l8 : L8.length ≤ 40 := by rw [f8]; simp; omega
      have l9 : L9.length ≤ 60 := by rw [f9, List.length_append]; omega
      have k1 : S1.length ≤ 40 := by rw [s1]; omega
      have k2 : S2.length ≤ 40 := by rw [s2]; omega
      have k3 : S3.length ≤ 60 := by rw [s3]; simp; omega
      have k4 : S4.length ≤ 100 := by rw [s4, Il.linked_len]; omega
      have z1 := bs_size L1
      have z2 := bs_size L2
      have z3 := bs_size L3
      have z4 := bs_size L4
      have z5 := bs_size L5
      have z6 := bs_size L6
      have z7 := bs_size L7
      have z8 := bs_size L8
      have z9 := bs_size L9
      have y1 := bs_size S1
      rw [← s1] at p1 p3 p4
      rw [← s2] at p2
      rw [← s3] at p3
      rw [← s4] at p4
      obtain ⟨W, hW⟩ : ∃ W, W = 119 :: V := ⟨_, rfl⟩
      rw [← hW] at p1 p2 p4 e1 e4 e8 e12 e15 hW0 hWl ⊢
      clear hall hS1l hS2l hS4l s1 s2 s3 s4 f1 f2 f3 f4 f5 f6 f7 f8 f9 hW hV p0 hc42
      have q1 := fun w h => hP.out S1 w (by omega) h
      have q2 := fun w h => hP.out S2 w (by omega) h
      have q3 := fun w h => hP.out S3 w (by omega) h
      have q4 := fun w h => hP.out S4 w (by omega) h
      rw [p1] at q1
      rw [p2] at q2
      rw [p3] at q3
      rw [p4] at q4
      have b1 := bs_eq (a := S1) (b := S1) rfl
      have b2 := bs_eq (a := W) (b := W) rfl
      replace q1 := Lib.hid q1
      replace q2 := Lib.hid q2
      replace q3 := Lib.hid q3
      replace q4 := Lib.hid q4
      clear p1 p2 p3 p4
      rcases hstop with hst | ⟨hst, hst2⟩
      all_goals
        go_wp2_with fail
        refine (q1.out _ (hTt.out _ (Below.refl _ _))).mono ?_
        rintro e w1 ⟨⟨v1, rfl, c1, ho1, hI1⟩, hb1⟩
        obtain ⟨A1, k1', rfl, _⟩ := own_shape ho1
        have hst1 := Lib.hid (fun wz hb => il_stay ho1 hI1 (wz := wz) hb)
        have hB1 := Lib.hid hb1
        clear ho1 hI1 hb1
        simp only [List.length_cons, List.length_nil, Nat.zero_add] at hst1 ⊢
        go_wp2_with fail
        refine (q2.out _ (hTt.out _ hB1.out)).mono ?_
        rintro e w2 ⟨⟨v2, rfl, c2', ho2, hI2⟩, hb2⟩
        obtain ⟨A2', k2', rfl, _⟩ := own_shape ho2
        have hst2 := Lib.hid (fun wz hb => il_stay ho2 hI2 (wz := wz) hb)
        have hC1 := Lib.hid hb2
        have hB2 := Lib.hid (ext_trans hB1.out hb2)
        clear ho2 hI2 hb2
        simp only [List.length_cons, List.length_nil, Nat.zero_add] at hst2 ⊢
        go_wp2_with fail
        refine (q3.out _ (hTt.out _ hB2.out)).mono ?_
        rintro e w3 ⟨⟨v3, rfl, c3, ho3, hI3⟩, hb3⟩
        obtain ⟨A3, k3', rfl, _⟩ := own_shape ho3
        have hst3 := Lib.hid (fun wz hb => il_stay ho3 hI3 (wz := wz) hb)
        have hD1 := Lib.hid (ext_trans hC1.out hb3)
        have hD2 := Lib.hid hb3
        have hB3 := Lib.hid (ext_trans hB2.out hb3)
        clear ho3 hI3 hb3 hC1
        simp only [List.length_cons, List.length_nil, Nat.zero_add] at hst3 ⊢
        go_wp2_with fail
        refine (q4.out _ (hTt.out _ hB3.out)).mono ?_
        rintro e w4 ⟨⟨v4, rfl, c4, ho4, hI4⟩, hb4⟩
        obtain ⟨A4, k4', rfl, _⟩ := own_shape ho4
        have hst4 := Lib.hid (fun wz hb => il_stay ho4 hI4 (wz := wz) hb)
        have hE1 := Lib.hid (ext_trans hD1.out hb4)
        have hE2 := Lib.hid (ext_trans hD2.out hb4)
        have hE3 := Lib.hid hb4
        have hB4 := Lib.hid (ext_trans hB3.out hb4)
        clear ho4 hI4 hb4 hD1 hD2
        simp only [List.length_cons, List.length_nil, Nat.zero_add] at hst4 ⊢
        obtain ⟨hR4, hJ4⟩ := hst4.out _ (Below.refl _ _)
        obtain ⟨g4, o4, cs4, rfl, i4, x4⟩ := il_one hR4 hJ4
        obtain ⟨AK, kK, cK, rfl, _, rK, sK⟩ := IC_form i4
        have t0 : w4.cell? ⟨g4, o4, none⟩ = some (.int .i64 4) := (x4 0 (by omega))
        have t2 : w4.cell? ⟨g4, o4 + 2, none⟩ = some (.string (bs W)) := (x4 2 (by omega))
        have t3 : w4.cell? ⟨g4, o4 + 3, none⟩ = some (.slice AK 1 kK) := (x4 3 (by omega))
        obtain ⟨gK, oK, csK, rfl, iK, xK⟩ := il_one rK sK
        obtain ⟨AL, kL, cL, rfl, _⟩ := IC_form iK
        have u0 : w4.cell? ⟨gK, oK, none⟩ = some (.int .i64 2) := (xK 0 (by omega))
        have hg4 : g4 < w4.heap.size := by obtain ⟨b, o, e, hb, _⟩ := hR4.2 (by omega); injection e with e; injection e with e1 _; rw [e1]; exact hb
        have hgK : gK < w4.heap.size := by obtain ⟨b, o, e, hb, _⟩ := rK.2 (by simp); injection e with e; injection e with e1 _; rw [e1]; exact hb
        clear hR4 hJ4 i4 x4 rK sK iK xK hst4
        obtain ⟨hR3, hJ3⟩ := hst3.out _ hE3.out
        obtain ⟨g3, o3, cs3, rfl, i3, x3⟩ := il_one hR3 hJ3
        obtain ⟨AM, kM, cM, rfl, _⟩ := IC_form i3
        have r0 : w4.cell? ⟨g3, o3, none⟩ = some (.int .i64 1) := (x3 0 (by omega))
        have r1 : w4.cell? ⟨g3, o3 + 1, none⟩ = some (.string (bs S1)) := (x3 1 (by omega))
        have hg3 : g3 < w4.heap.size := by obtain ⟨b, o, e, hb, _⟩ := hR3.2 (by omega); injection e with e; injection e with e1 _; rw [e1]; exact hb
        clear hR3 hJ3 i3 x3 hst3 hE3
        go_wp2_with fail
        generalize hW5 : World.alloc _ _ = w5
        obtain ⟨z, hz⟩ : ∃ z, z = w4.heap.size := ⟨_, rfl⟩
        rw [← hz] at hW5 ⊢
        have hb5 : Below w4.heap.size w4 w5 := by rw [← hW5]; exact (ext_alloc _ _).alloc (by simp) _
        have h0 : w5.heap[z]? = some (.cells (leafC 0 W []).toArray 30) := by rw [← hW5, hz]; exact lit_old (lit_at rfl)
        have h1 : w5.heap[z + 1]? = some (.cells (nodeC 2 [] [] z 1).toArray 30) := by rw [← hW5, hz]; exact lit_at (by simp)
        have hsz : w5.heap.size = z + 2 := by rw [← hW5, hz]; simp
        clear hW5
        have hB5 := Lib.hid (ext_trans hB4.out hb5)
        have hF1 := Lib.hid (ext_trans hE1.out hb5)
        have hF2 := Lib.hid (ext_trans hE2.out hb5)
        have hG4 := Lib.hid hb5
        have hc5 : RowI w5 (fun b => b < w5.heap.size) 4 (some ⟨z, 0, none⟩) 1 [leafC 0 W []].flatten := RowI_blk h0 (by omega) (by simp) rfl
        have hn5 : RowI w5 (fun b => b < w5.heap.size) 4 (some ⟨z + 1, 0, none⟩) 1 [nodeC 2 [] [] z 1].flatten := RowI_blk h1 (by omega) (by simp) rfl
        have hm5 : ICs w5 (fun b => b < w5.heap.size) [.mk 2 [] [] [Il.word W]] [nodeC 2 [] [] z 1] := ICs_cons (IC_node _ _ _ rfl hc5 (ICs_cons (IC_leaf _ _ _) ICs_nil)) ICs_nil
        obtain ⟨hR1, hJ1⟩ := hst1.out _ hF1.out
        replace hR1 := Lib.hid hR1
        replace hJ1 := Lib.hid hJ1
        replace hn5 := Lib.hid hn5
        replace hm5 := Lib.hid hm5
        replace hz := Lib.hid hz
        clear hB4 hE1 hE2 hst1 h1 hc5 hF1 hb5
        obtain ⟨y, hy⟩ : ∃ y, y = z + 1 := ⟨_, rfl⟩
        rw [← hy] at hn5 ⊢
        replace hy := Lib.hid hy
        refine (risame_any _ [.mk 2 [] [] [Il.word W]] (Nat.le_refl _) (il_few_word W 2 (by omega)) (by simp) A1 (some ⟨y, 0, none⟩) k1' 1 c1 [nodeC 2 [] [] z 1] w5 (fun b => b < w5.heap.size) (fun _ h => h) hR1.out hJ1.out hn5.out hm5.out).mono ?_
        rintro e w6 ⟨rfl, hb6⟩
        have hB6 := Lib.hid (ext_trans hB5.out hb6)
        have hG2 := Lib.hid (ext_trans hF2.out hb6)
        have hG6 := Lib.hid (ext_trans hG4.out hb6)
        have hz6 := hb6.size
        have h6 : w6.heap[z]? = some (.cells (leafC 0 W []).toArray 30) := (hb6.block z (by omega)).trans h0
        clear hR1 hJ1 hn5 hm5 hB5 hF2 hG4 hb6 h0
        go_wp2_with fail
        generalize hW7 : World.alloc _ _ = w7
        obtain ⟨x, hx6⟩ : ∃ x, x = w6.heap.size := ⟨_, rfl⟩
        rw [← hx6]
        have hb7 : Below w6.heap.size w6 w7 := by rw [← hW7]; exact ext_alloc _ _
        have h7 : w7.heap[z]? = some (.cells (leafC 0 W []).toArray 30) := by rw [← hW7]; exact lit_old h6
        have h8 : w7.heap[x]? = some (.cells (nodeC 3 [] [] z 1).toArray 30) := by rw [← hW7, hx6]; exact lit_at rfl
        have hsz7 : w7.heap.size = x + 1 := by rw [← hW7, hx6]; simp
        clear hW7
        have hB7 := Lib.hid (ext_trans hB6.out hb7)
        have hH2 := Lib.hid (ext_trans hG2.out hb7)
        have hG7 := Lib.hid (ext_trans hG6.out hb7)
        have hzx : z < x := by omega
        have hc7 : RowI w7 (fun b => b < w7.heap.size) 4 (some ⟨z, 0, none⟩) 1 [leafC 0 W []].flatten := RowI_blk h7 (by omega) (by simp) rfl
        have hn7 : RowI w7 (fun b => b < w7.heap.size) 4 (some ⟨x, 0, none⟩) 1 [nodeC 3 [] [] z 1].flatten := RowI_blk h8 (by omega) (by simp) rfl
        have hm7 : ICs w7 (fun b => b < w7.heap.size) [.mk 3 [] [] [Il.word W]] [nodeC 3 [] [] z 1] := ICs_cons (IC_node _ _ _ rfl hc7 (ICs_cons (IC_leaf _ _ _) ICs_nil)) ICs_nil
        obtain ⟨hR2', hJ2'⟩ := hst2.out _ hH2.out
        replace hR2' := Lib.hid hR2'
        replace hJ2' := Lib.hid hJ2'
        replace hn7 := Lib.hid hn7
        replace hm7 := Lib.hid hm7
        replace hx6 := Lib.hid hx6
        clear hB6 hG2 hG6 hst2 h7 h8 hc7 hH2 hb7 h6 hsz hsz7 hz6
        refine (risame_any _ [.mk 3 [] [] [Il.word W]] (Nat.le_refl _) (il_few_word W 3 (by omega)) (by simp) A2' (some ⟨x, 0, none⟩) k2' 1 c2' [nodeC 3 [] [] z 1] w7 (fun b => b < w7.heap.size) (fun _ h => h) hR2'.out hJ2'.out hn7.out hm7.out).mono ?_
        rintro e w8 ⟨rfl, hb8⟩
        have hB8 := Lib.hid (ext_trans hB7.out hb8)
        have hG8 := ext_trans hG7.out hb8
        have t0' := (hG8.cell (p := ⟨g4, o4, none⟩) hg4).trans t0
        have t2' := (hG8.cell (p := ⟨g4, o4 + 2, none⟩) hg4).trans t2
        have t3' := (hG8.cell (p := ⟨g4, o4 + 3, none⟩) hg4).trans t3
        have u0' := (hG8.cell (p := ⟨gK, oK, none⟩) hgK).trans u0
        have r0' := (hG8.cell (p := ⟨g3, o3, none⟩) hg3).trans r0
        have r1' := (hG8.cell (p := ⟨g3, o3 + 1, none⟩) hg3).trans r1
        clear hR2' hJ2' hn7 hm7 hB7 hG7 hb8 hG8 t0 t2 t3 u0 r0 r1 hg4 hgK hg3 hzx
        go_wp2_with fail
        refine (hK.out _ (hTt.out _ hB8.out)).mono ?_
        rintro e w9 ⟨rfl, hb9⟩
        have hB9 := Lib.hid (ext_trans hB8.out hb9)
        go_wp2_with fail
        go_ret
        exact ⟨rfl, hB9.out⟩

set_option maxHeartbeats 16000000 in
set_option maxRecDepth 100000 in
theorem ilnested_under (hP : PParse) (hX : PText) (ws : List Nat) (A2 : Option Addr) (c2 : Nat) (w : World) (h2 : Row w w.heap.size 1 A2 ws.length (ucells ws)) (hl : ws.length ≤ 9223372036854775807) (hx : ∀ x ∈ ws, x ≤ 65535) (hTb : Tabs w) :
    Calls Tryd.prog 4 #[.bool true, .slice A2 ws.length c2] w fun e w' => e = .returned (.bool true) ∧ Below w.heap.size w w' := by
  have hR2 := Lib.hid h2
  replace hx := Lib.hid hx
  have hTt := Lib.hid (fun w' (hb : Below w.heap.size w w') => tabs_below hTb hb)
  have hK := Lib.hid (fun w t => ilknown_any hP hX w t)
  clear hX
  replace hP := Lib.hid hP
  clear h2 hTb
  go_enter Tryd.func4, Tryd.ntmps4
  go_wp2_with fail
  go_loop [5, 6] (fun t i => ∃ (k : Nat) (V : List UInt8), k ≤ ws.length ∧ k ≤ 12 ∧ V.length ≤ k ∧ Hid (∀ b ∈ 119 :: V, Lk.small b = true) ∧ i = .int .i64 k ∧ t = .string (bs (119 :: V))) (fun _ i => ws.length - (intOf i).toNat)
  case atStart => exact ⟨0, [], Nat.zero_le _, Nat.zero_le _, Nat.zero_le _, Lib.hid (by decide), rfl, rfl⟩
  case round =>
    obtain ⟨k, V, hk1, hk2, hVl, hV, rfl, rfl⟩ := hrel
    by_cases hgo : k < ws.length ∧ k < 12
    · obtain ⟨hg1, hg2⟩ := hgo
      obtain ⟨b, o, rfl, hbb, hc⟩ := word_cell hR2.out (by omega)
      have hcell : w.cell? ⟨b, o + k, none⟩ = some (.int .u16 (ws[k] : Int)) := hc k hg1
      have hlk := hx.out ws[k] (List.getElem_mem hg1)
      obtain ⟨xi, hxi⟩ : ∃ xi : Int, xi = (ws[k] : Int) := ⟨_, rfl⟩
      rw [← hxi] at hcell
      obtain ⟨r, hr⟩ : ∃ r, r = ws[k] % 26 := ⟨_, rfl⟩
      have hr26 : r < 26 := by rw [hr]; exact Nat.mod_lt _ (by omega)
      have hm1 : xi % 26 = (r : Int) := by omega
      have hm2 : xi.tmod 26 = (r : Int) := by rw [Int.tmod_eq_emod_of_nonneg (by omega)]; exact hm1
      have hw1 : IntKind.u16.wrap (97 + (r : Int)) = 97 + (r : Int) := by unfold IntKind.wrap; simp [IntKind.bits, IntKind.signed]; omega
      have hw2 : IntKind.u16.wrap (r : Int) = (r : Int) := by unfold IntKind.wrap; simp [IntKind.bits, IntKind.signed]; omega
      have hcv := fun w => il_run_rune (97 + (r : Int)) w
      obtain ⟨hl1, hl2⟩ := il_letter r hr26
      rw [hl1] at hcv
      obtain ⟨d, hd⟩ : ∃ d, d = UInt8.ofNat (97 + r) := ⟨_, rfl⟩
      rw [← hd] at hcv hl2
      have hV2 : Hid (∀ z ∈ 119 :: (V ++ [d]), Lk.small z = true) := Lib.hid (by
        intro z hz
        rw [← List.cons_append] at hz
        rcases List.mem_append.1 hz with h | h
        · exact hV.out z h
        · obtain rfl := List.mem_singleton.1 h; exact hl2)
      have ha : bs (119 :: V) ++ bs [d] = bs (119 :: (V ++ [d])) := bs_append (119 :: V) [d]
      have hs1 := bs_size (119 :: V)
      have hs2 := bs_size [d]
      rw [List.length_cons] at hs1
      simp only [List.length_cons, List.length_nil] at hs2
      replace hl1 := Lib.hid hl1
      replace hxi := Lib.hid hxi
      clear hc hlk hr hd hl2
      go_wp2_with fail
      go_round
      case rel => exact ⟨k + 1, V ++ [d], by omega, by omega, by simp; omega, hV2, by go_num, rfl⟩
      case measure => simp [intOf]; omega
    · have hstop : ws.length ≤ k ∨ k < ws.length ∧ 12 ≤ k := by omega
      clear hgo
      have hc42 : (95 : UInt8) = 42 ∨ (95 : UInt8) = 95 := by decide
      have p1 : Il.parse (Il.stressed 95 1 (119 :: V)) = [.mk 2 [] [] [Il.word (119 :: V)]] := Il.within_stressed false Il.inLink hc42 (.inl rfl) hV.out
      have p2 : Il.parse (Il.stressed 95 2 (119 :: V)) = [.mk 3 [] [] [Il.word (119 :: V)]] := Il.within_stressed false Il.inLink hc42 (.inr rfl) hV.out
      have p0 : Il.inLink (Il.stressed 95 1 (119 :: V)) = [.mk 2 [] [] [Il.word (119 :: V)]] := Il.within_stressed true (fun _ => []) hc42 (.inl rfl) hV.out
      have hall : ∀ b ∈ Il.stressed 95 1 (119 :: V), b.toNat < 128 ∧ b ≠ 96 ∧ b ≠ 60 ∧ b ≠ 91 ∧ b ≠ 93 ∧ b ≠ 92 ∧ b ≠ 10 ∧ b ≠ 32 := by
        intro b hb
        unfold Il.stressed at hb
        simp only [List.mem_append, List.mem_replicate] at hb
        rcases hb with ⟨_, rfl⟩ | hb | ⟨_, rfl⟩
        · decide
        · have h1 := (Lk.small_iff b).1 (hV.out b hb)
          refine ⟨by omega, ?_, ?_, ?_, ?_, ?_, ?_, ?_⟩ <;> (intro e; rw [e] at h1; revert h1; decide)
        · decide
      have hS1l := Il.stressed_len 95 1 (119 :: V)
      have p3 : Il.parse (96 :: (Il.stressed 95 1 (119 :: V) ++ [96])) = [.mk 1 (Il.stressed 95 1 (119 :: V)) [] []] := Il.parse_code (fun b hb => ⟨(hall b hb).2.1, (hall b hb).2.2.2.2.2.2.1, (hall b hb).2.2.2.2.2.2.2⟩) (by omega)
      have p4 : Il.parse (Il.linked (Il.stressed 95 1 (119 :: V)) (119 :: V)) = [.mk 4 [] (119 :: V) (Il.inLink (Il.stressed 95 1 (119 :: V)))] := Il.parse_linked (fun b hb => ⟨(hall b hb).1, (hall b hb).2.1, (hall b hb).2.2.1, (hall b hb).2.2.2.1, (hall b hb).2.2.2.2.1, (hall b hb).2.2.2.2.2.1⟩) hV.out
      rw [p0] at p4
      have hS2l := Il.stressed_len 95 2 (119 :: V)
      have hS4l := Il.linked_len (Il.stressed 95 1 (119 :: V)) (119 :: V)
      have hWl : (119 :: V).length ≤ 13 := by rw [List.length_cons]; omega
      have hW0 := bs_size (119 :: V)
      obtain ⟨L1, f1⟩ : ∃ L : List UInt8, L = [95] ++ (119 :: V) := ⟨_, rfl⟩
      obtain ⟨L2, f2⟩ : ∃ L : List UInt8, L = [95, 95] ++ (119 :: V) := ⟨_, rfl⟩
      obtain ⟨L3, f3⟩ : ∃ L : List UInt8, L = L2 ++ [95] := ⟨_, rfl⟩
      obtain ⟨L4, f4⟩ : ∃ L : List UInt8, L = [96, 95] ++ (119 :: V) := ⟨_, rfl⟩
      obtain ⟨L5, f5⟩ : ∃ L : List UInt8, L = L4 ++ [95] := ⟨_, rfl⟩
      obtain ⟨L6, f6⟩ : ∃ L : List UInt8, L = [91, 95] ++ (119 :: V) := ⟨_, rfl⟩
      obtain ⟨L7, f7⟩ : ∃ L : List UInt8, L = L6 ++ [95] := ⟨_, rfl⟩
      obtain ⟨L8, f8⟩ : ∃ L : List UInt8, L = L7 ++ [93, 40] := ⟨_, rfl⟩
      obtain ⟨L9, f9⟩ : ∃ L : List UInt8, L = L8 ++ (119 :: V) := ⟨_, rfl⟩
      obtain ⟨S1, s1⟩ : ∃ L : List UInt8, L = Il.stressed 95 1 (119 :: V) := ⟨_, rfl⟩
      obtain ⟨S2, s2⟩ : ∃ L : List UInt8, L = Il.stressed 95 2 (119 :: V) := ⟨_, rfl⟩
      obtain ⟨S3, s3⟩ : ∃ L : List UInt8, L = 96 :: (S1 ++ [96]) := ⟨_, rfl⟩
      obtain ⟨S4, s4⟩ : ∃ L : List UInt8, L = Il.linked S1 (119 :: V) := ⟨_, rfl⟩
      have e1 : (⟨#[95]⟩ : ByteArray) ++ bs (119 :: V) = bs L1 := by rw [f1]; exact bs_append [95] _
      have e2 : bs L1 ++ (⟨#[95]⟩ : ByteArray) = bs S1 := by rw [show S1 = L1 ++ [95] from by rw [s1, f1]; simp [Il.stressed]]; exact bs_append L1 [95]
      have e3 : (⟨#[95]⟩ : ByteArray) ++ (⟨#[95]⟩ : ByteArray) = ⟨#[95, 95]⟩ := rfl
      have e4 : (⟨#[95, 95]⟩ : ByteArray) ++ bs (119 :: V) = bs L2 := by rw [f2]; exact bs_append [95, 95] _
      have e5 : bs L2 ++ (⟨#[95]⟩ : ByteArray) = bs L3 := by rw [f3]; exact bs_append L2 [95]
      have e6 : bs L3 ++ (⟨#[95]⟩ : ByteArray) = bs S2 := by rw [show S2 = L3 ++ [95] from by rw [s2, f3, f2]; simp [Il.stressed, List.replicate]]; exact bs_append L3 [95]
      have e7 : (⟨#[96]⟩ : ByteArray) ++ (⟨#[95]⟩ : ByteArray) = ⟨#[96, 95]⟩ := rfl
      have e8 : (⟨#[96, 95]⟩ : ByteArray) ++ bs (119 :: V) = bs L4 := by rw [f4]; exact bs_append [96, 95] _
      have e9 : bs L4 ++ (⟨#[95]⟩ : ByteArray) = bs L5 := by rw [f5]; exact bs_append L4 [95]
      have e10 : bs L5 ++ (⟨#[96]⟩ : ByteArray) = bs S3 := by rw [show S3 = L5 ++ [96] from by rw [s3, s1, f5, f4]; simp [Il.stressed]]; exact bs_append L5 [96]
      have e11 : (⟨#[91]⟩ : ByteArray) ++ (⟨#[95]⟩ : ByteArray) = ⟨#[91, 95]⟩ := rfl
      have e12 : (⟨#[91, 95]⟩ : ByteArray) ++ bs (119 :: V) = bs L6 := by rw [f6]; exact bs_append [91, 95] _
      have e13 : bs L6 ++ (⟨#[95]⟩ : ByteArray) = bs L7 := by rw [f7]; exact bs_append L6 [95]
      have e14 : bs L7 ++ (⟨#[93, 40]⟩ : ByteArray) = bs L8 := by rw [f8]; exact bs_append L7 [93, 40]
      have e15 : bs L8 ++ bs (119 :: V) = bs L9 := by rw [f9]; exact bs_append L8 _
      have e16 : bs L9 ++ (⟨#[41]⟩ : ByteArray) = bs S4 := by rw [show S4 = L9 ++ [41] from by rw [s4, s1, f9, f8, f7, f6]; simp [Il.stressed, Il.linked]]; exact bs_append L9 [41]
      have l1 : L1.length ≤ 20 := by rw [f1]; simp; omega
      have l2 : L2.length ≤ 20 := by rw [f2]; simp; omega
      have l3 : L3.length ≤ 30 := by rw [f3]; simp; omega
      have l4 : L4.length ≤ 20 := by rw [f4]; simp; omega
      have l5 : L5.length ≤ 30 := by rw [f5]; simp; omega
      have l6 : L6.length ≤ 20 := by rw [f6]; simp; omega
      have l7 : L7.length ≤ 30 := by rw [f7]; simp; omega
      have l8 : L8.length ≤ 40 := by rw [f8]; simp; omega
      have l9 : L9.length ≤ 60 := by rw [f9, List.length_append]; omega
      have k1 : S1.length ≤ 40 := by rw [s1]; omega
      have k2 : S2.length ≤ 40 := by rw [s2]; omega
      have k3 : S3.length ≤ 60 := by rw [s3]; simp; omega
      have k4 : S4.length ≤ 100 := by rw [s4, Il.linked_len]; omega
      have z1 := bs_size L1
      have z2 := bs_size L2
      have z3 := bs_size L3
      have z4 := bs_size L4
      have z5 := bs_size L5
      have z6 := bs_size L6
      have z7 := bs_size L7
      have z8 := bs_size L8
      have z9 := bs_size L9
      have y1 := bs_size S1
      rw [← s1] at p1 p3 p4
      rw [← s2] at p2
      rw [← s3] at p3
      rw [← s4] at p4
      obtain ⟨W, hW⟩ : ∃ W, W = 119 :: V := ⟨_, rfl⟩
      rw [← hW] at p1 p2 p4 e1 e4 e8 e12 e15 hW0 hWl ⊢
      clear hall hS1l hS2l hS4l s1 s2 s3 s4 f1 f2 f3 f4 f5 f6 f7 f8 f9 hW hV p0 hc42
      have q1 := fun w h => hP.out S1 w (by omega) h
      have q2 := fun w h => hP.out S2 w (by omega) h
      have q3 := fun w h => hP.out S3 w (by omega) h
      have q4 := fun w h => hP.out S4 w (by omega) h
      rw [p1] at q1
      rw [p2] at q2
      rw [p3] at q3
      rw [p4] at q4
      have b1 := bs_eq (a := S1) (b := S1) rfl
      have b2 := bs_eq (a := W) (b := W) rfl
      replace q1 := Lib.hid q1
      replace q2 := Lib.hid q2
      replace q3 := Lib.hid q3
      replace q4 := Lib.hid q4
      clear p1 p2 p3 p4
      rcases hstop with hst | ⟨hst, hst2⟩
      all_goals
        go_wp2_with fail
        refine (q1.out _ (hTt.out _ (Below.refl _ _))).mono ?_
        rintro e w1 ⟨⟨v1, rfl, c1, ho1, hI1⟩, hb1⟩
        obtain ⟨A1, k1', rfl, _⟩ := own_shape ho1
        have hst1 := Lib.hid (fun wz hb => il_stay ho1 hI1 (wz := wz) hb)
        have hB1 := Lib.hid hb1
        clear ho1 hI1 hb1
        simp only [List.length_cons, List.length_nil, Nat.zero_add] at hst1 ⊢
        go_wp2_with fail
        refine (q2.out _ (hTt.out _ hB1.out)).mono ?_
        rintro e w2 ⟨⟨v2, rfl, c2', ho2, hI2⟩, hb2⟩
        obtain ⟨A2', k2', rfl, _⟩ := own_shape ho2
        have hst2 := Lib.hid (fun wz hb => il_stay ho2 hI2 (wz := wz) hb)
        have hC1 := Lib.hid hb2
        have hB2 := Lib.hid (ext_trans hB1.out hb2)
        clear ho2 hI2 hb2
        simp only [List.length_cons, List.length_nil, Nat.zero_add] at hst2 ⊢
        go_wp2_with fail
        refine (q3.out _ (hTt.out _ hB2.out)).mono ?_
        rintro e w3 ⟨⟨v3, rfl, c3, ho3, hI3⟩, hb3⟩
        obtain ⟨A3, k3', rfl, _⟩ := own_shape ho3
        have hst3 := Lib.hid (fun wz hb => il_stay ho3 hI3 (wz := wz) hb)
        have hD1 := Lib.hid (ext_trans hC1.out hb3)
        have hD2 := Lib.hid hb3
        have hB3 := Lib.hid (ext_trans hB2.out hb3)
        clear ho3 hI3 hb3 hC1
        simp only [List.length_cons, List.length_nil, Nat.zero_add] at hst3 ⊢
        go_wp2_with fail
        refine (q4.out _ (hTt.out _ hB3.out)).mono ?_
        rintro e w4 ⟨⟨v4, rfl, c4, ho4, hI4⟩, hb4⟩
        obtain ⟨A4, k4', rfl, _⟩ := own_shape ho4
        have hst4 := Lib.hid (fun wz hb => il_stay ho4 hI4 (wz := wz) hb)
        have hE1 := Lib.hid (ext_trans hD1.out hb4)
        have hE2 := Lib.hid (ext_trans hD2.out hb4)
        have hE3 := Lib.hid hb4
        have hB4 := Lib.hid (ext_trans hB3.out hb4)
        clear ho4 hI4 hb4 hD1 hD2
        simp only [List.length_cons, List.length_nil, Nat.zero_add] at hst4 ⊢
        obtain ⟨hR4, hJ4⟩ := hst4.out _ (Below.refl _ _)
        obtain ⟨g4, o4, cs4, rfl, i4, x4⟩ := il_one hR4 hJ4
        obtain ⟨AK, kK, cK, rfl, _, rK, sK⟩ := IC_form i4
        have t0 : w4.cell? ⟨g4, o4, none⟩ = some (.int .i64 4) := (x4 0 (by omega))
        have t2 : w4.cell? ⟨g4, o4 + 2, none⟩ = some (.string (bs W)) := (x4 2 (by omega))
        have t3 : w4.cell? ⟨g4, o4 + 3, none⟩ = some (.slice AK 1 kK) := (x4 3 (by omega))
        obtain ⟨gK, oK, csK, rfl, iK, xK⟩ := il_one rK sK
        obtain ⟨AL, kL, cL, rfl, _⟩ := IC_form iK
        have u0 : w4.cell? ⟨gK, oK, none⟩ = some (.int .i64 2) := (xK 0 (by omega))
        have hg4 : g4 < w4.heap.size := by obtain ⟨b, o, e, hb, _⟩ := hR4.2 (by omega); injection e with e; injection e with e1 _; rw [e1]; exact hb
        have hgK : gK < w4.heap.size := by obtain ⟨b, o, e, hb, _⟩ := rK.2 (by simp); injection e with e; injection e with e1 _; rw [e1]; exact hb
        clear hR4 hJ4 i4 x4 rK sK iK xK hst4
        obtain ⟨hR3, hJ3⟩ := hst3.out _ hE3.out
        obtain ⟨g3, o3, cs3, rfl, i3, x3⟩ := il_one hR3 hJ3
        obtain ⟨AM, kM, cM, rfl, _⟩ := IC_form i3
        have r0 : w4.cell? ⟨g3, o3, none⟩ = some (.int .i64 1) := (x3 0 (by omega))
        have r1 : w4.cell? ⟨g3, o3 + 1, none⟩ = some (.string (bs S1)) := (x3 1 (by omega))
        have hg3 : g3 < w4.heap.size := by obtain ⟨b, o, e, hb, _⟩ := hR3.2 (by omega); injection e with e; injection e with e1 _; rw [e1]; exact hb
        clear hR3 hJ3 i3 x3 hst3 hE3
        go_wp2_with fail
        generalize hW5 : World.alloc _ _ = w5
        obtain ⟨z, hz⟩ : ∃ z, z = w4.heap.size := ⟨_, rfl⟩
        rw [← hz] at hW5 ⊢
        have hb5 : Below w4.heap.size w4 w5 := by rw [← hW5]; exact (ext_alloc _ _).alloc (by simp) _
        have h0 : w5.heap[z]? = some (.cells (leafC 0 W []).toArray 30) := by rw [← hW5, hz]; exact lit_old (lit_at rfl)
        have h1 : w5.heap[z + 1]? = some (.cells (nodeC 2 [] [] z 1).toArray 30) := by rw [← hW5, hz]; exact lit_at (by simp)
        have hsz : w5.heap.size = z + 2 := by rw [← hW5, hz]; simp
        clear hW5
        have hB5 := Lib.hid (ext_trans hB4.out hb5)
        have hF1 := Lib.hid (ext_trans hE1.out hb5)
        have hF2 := Lib.hid (ext_trans hE2.out hb5)
        have hG4 := Lib.hid hb5
        have hc5 : RowI w5 (fun b => b < w5.heap.size) 4 (some ⟨z, 0, none⟩) 1 [leafC 0 W []].flatten := RowI_blk h0 (by omega) (by simp) rfl
        have hn5 : RowI w5 (fun b => b < w5.heap.size) 4 (some ⟨z + 1, 0, none⟩) 1 [nodeC 2 [] [] z 1].flatten := RowI_blk h1 (by omega) (by simp) rfl
        have hm5 : ICs w5 (fun b => b < w5.heap.size) [.mk 2 [] [] [Il.word W]] [nodeC 2 [] [] z 1] := ICs_cons (IC_node _ _ _ rfl hc5 (ICs_cons (IC_leaf _ _ _) ICs_nil)) ICs_nil
        obtain ⟨hR1, hJ1⟩ := hst1.out _ hF1.out
        replace hR1 := Lib.hid hR1
        replace hJ1 := Lib.hid hJ1
        replace hn5 := Lib.hid hn5
        replace hm5 := Lib.hid hm5
        replace hz := Lib.hid hz
        clear hB4 hE1 hE2 hst1 h1 hc5 hF1 hb5
        obtain ⟨y, hy⟩ : ∃ y, y = z + 1 := ⟨_, rfl⟩
        rw [← hy] at hn5 ⊢
        replace hy := Lib.hid hy
        refine (risame_any _ [.mk 2 [] [] [Il.word W]] (Nat.le_refl _) (il_few_word W 2 (by omega)) (by simp) A1 (some ⟨y, 0, none⟩) k1' 1 c1 [nodeC 2 [] [] z 1] w5 (fun b => b < w5.heap.size) (fun _ h => h) hR1.out hJ1.out hn5.out hm5.out).mono ?_
        rintro e w6 ⟨rfl, hb6⟩
        have hB6 := Lib.hid (ext_trans hB5.out hb6)
        have hG2 := Lib.hid (ext_trans hF2.out hb6)
        have hG6 := Lib.hid (ext_trans hG4.out hb6)
        have hz6 := hb6.size
        have h6 : w6.heap[z]? = some (.cells (leafC 0 W []).toArray 30) := (hb6.block z (by omega)).trans h0
        clear hR1 hJ1 hn5 hm5 hB5 hF2 hG4 hb6 h0
        go_wp2_with fail
        generalize hW7 : World.alloc _ _ = w7
        obtain ⟨x, hx6⟩ : ∃ x, x = w6.heap.size := ⟨_, rfl⟩
        rw [← hx6]
        have hb7 : Below w6.heap.size w6 w7 := by rw [← hW7]; exact ext_alloc _ _
        have h7 : w7.heap[z]? = some (.cells (leafC 0 W []).toArray 30) := by rw [← hW7]; exact lit_old h6
        have h8 : w7.heap[x]? = some (.cells (nodeC 3 [] [] z 1).toArray 30) := by rw [← hW7, hx6]; exact lit_at rfl
        have hsz7 : w7.heap.size = x + 1 := by rw [← hW7, hx6]; simp
        clear hW7
        have hB7 := Lib.hid (ext_trans hB6.out hb7)
        have hH2 := Lib.hid (ext_trans hG2.out hb7)
        have hG7 := Lib.hid (ext_trans hG6.out hb7)
        have hzx : z < x := by omega
        have hc7 : RowI w7 (fun b => b < w7.heap.size) 4 (some ⟨z, 0, none⟩) 1 [leafC 0 W []].flatten := RowI_blk h7 (by omega) (by simp) rfl
        have hn7 : RowI w7 (fun b => b < w7.heap.size) 4 (some ⟨x, 0, none⟩) 1 [nodeC 3 [] [] z 1].flatten := RowI_blk h8 (by omega) (by simp) rfl
        have hm7 : ICs w7 (fun b => b < w7.heap.size) [.mk 3 [] [] [Il.word W]] [nodeC 3 [] [] z 1] := ICs_cons (IC_node _ _ _ rfl hc7 (ICs_cons (IC_leaf _ _ _) ICs_nil)) ICs_nil
        obtain ⟨hR2', hJ2'⟩ := hst2.out _ hH2.out
        replace hR2' := Lib.hid hR2'
        replace hJ2' := Lib.hid hJ2'
        replace hn7 := Lib.hid hn7
        replace hm7 := Lib.hid hm7
        replace hx6 := Lib.hid hx6
        clear hB6 hG2 hG6 hst2 h7 h8 hc7 hH2 hb7 h6 hsz hsz7 hz6
        refine (risame_any _ [.mk 3 [] [] [Il.word W]] (Nat.le_refl _) (il_few_word W 3 (by omega)) (by simp) A2' (some ⟨x, 0, none⟩) k2' 1 c2' [nodeC 3 [] [] z 1] w7 (fun b => b < w7.heap.size) (fun _ h => h) hR2'.out hJ2'.out hn7.out hm7.out).mono ?_
        rintro e w8 ⟨rfl, hb8⟩
        have hB8 := Lib.hid (ext_trans hB7.out hb8)
        have hG8 := ext_trans hG7.out hb8
        have t0' := (hG8.cell (p := ⟨g4, o4, none⟩) hg4).trans t0
        have t2' := (hG8.cell (p := ⟨g4, o4 + 2, none⟩) hg4).trans t2
        have t3' := (hG8.cell (p := ⟨g4, o4 + 3, none⟩) hg4).trans t3
        have u0' := (hG8.cell (p := ⟨gK, oK, none⟩) hgK).trans u0
        have r0' := (hG8.cell (p := ⟨g3, o3, none⟩) hg3).trans r0
        have r1' := (hG8.cell (p := ⟨g3, o3 + 1, none⟩) hg3).trans r1
        clear hR2' hJ2' hn7 hm7 hB7 hG7 hb8 hG8 t0 t2 t3 u0 r0 r1 hg4 hgK hg3 hzx
        go_wp2_with fail
        refine (hK.out _ (hTt.out _ hB8.out)).mono ?_
        rintro e w9 ⟨rfl, hb9⟩
        have hB9 := Lib.hid (ext_trans hB8.out hb9)
        go_wp2_with fail
        go_ret
        exact ⟨rfl, hB9.out⟩

theorem ilnested_any (hP : PParse) (hX : PText) (b : Bool) (ws : List Nat) (A2 : Option Addr) (c2 : Nat) (w : World) (h2 : Row w w.heap.size 1 A2 ws.length (ucells ws)) (hl : ws.length ≤ 9223372036854775807) (hx : ∀ x ∈ ws, x ≤ 65535) (hTb : Tabs w) :
    Calls Tryd.prog 4 #[.bool b, .slice A2 ws.length c2] w fun e w' => e = .returned (.bool true) ∧ Below w.heap.size w w' := by
  cases b with
  | false => exact ilnested_star hP hX ws A2 c2 w h2 hl hx hTb
  | true => exact ilnested_under hP hX ws A2 c2 w h2 hl hx hTb
end Go.Proofs.YtkfhkfagmokjpaaDoor
