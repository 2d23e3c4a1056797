/- AttrBack: what is written is read as it is; what is read is written so that it is read again. -/
import Derived.Test.YtfppfaliepkhgaaDoorAtBack
import Derived.Test.YtfppfaliepkhgaaDoorAtMade
import Derived.Test.YtfppfaliepkhgaaDoorAtKnown
import Derived.Deep.DeepCutAuto
import Derived.ProofKit
namespace Go.Proofs.YtfppfaliepkhgaaDoor
open Go.RowKit

/-- an Attr's block -/
abbrev AtBlk (w : World) (g : Nat) (a : At.Attr) : Prop := w.heap[g]? = some (.cells (acells a) 27)

set_option maxHeartbeats 4000000 in
set_option maxRecDepth 100000 in
theorem back_any (la nm st : List UInt8) (file more bare : Bool) (ks : List UInt8) (A : Option Addr) (c : Nat) (w : World) (hR : Row w w.heap.size 1 A ks.length (bcells ks)) (hkm : ks.length ≤ 9223372036854775807)
    (h1 : la.length ≤ 100000000) (h2 : nm.length ≤ 100000000) (h3 : st.length ≤ 100000000) (hT : Tabs w) :
    Calls Tryd.prog 5 #[.string (bs la), .string (bs nm), .string (bs st), .bool file, .bool more, .bool bare, .slice A ks.length c] w fun e w' => e = .returned (.bool true) ∧ Below w.heap.size w w' := by
  replace hT := Lib.hid hT
  replace hR := Lib.hid hR
  have hml := md_all ks
  have hmd := fun w h => made_fn ks A c w h hkm
  obtain ⟨T, hTT⟩ : ∃ T, md 24 ks = T := ⟨_, rfl⟩
  rw [hTT] at hml hmd
  clear hTT
  obtain ⟨a, ha⟩ : ∃ a : At.Attr, (if file = true then ⟨la, [], nm, st, more, bare⟩ else ⟨la, nm, [], st, more, bare⟩) = a := ⟨_, rfl⟩
  have hfit : At.fits a := by
    subst ha
    cases file
    · exact ⟨h1, h2, by simp, h3⟩
    · exact ⟨h1, by simp, h2, h3⟩
  clear h1 h2 h3
  go_enter Tryd.func5, Tryd.ntmps5
  have hq := heap_alloc_new w (.cells #[.string (bs la), .string (bs nm), .string ⟨#[]⟩, .string (bs st), .bool more, .bool bare] 27)
  have hx := ext_alloc w (.cells #[.string (bs la), .string (bs nm), .string ⟨#[]⟩, .string (bs st), .bool more, .bool bare] 27)
  obtain ⟨y0, y1, y2, y3, y4, y5⟩ := six hq
  have yf := blk_free hq
  go_upto_if 29 with fail
  go_cut [15] (fun v wx => ∃ g, v = .pointer (some ⟨g, 0, none⟩) ∧ AtBlk wx g a ∧ Below w.heap.size w wx)
  case first =>
    obtain ⟨w0, hw0⟩ : ∃ w0, w.alloc (.cells #[.string (bs la), .string (bs nm), .string ⟨#[]⟩, .string (bs st), .bool more, .bool bare] 27) = w0 := ⟨_, rfl⟩
    rw [hw0] at hq hx y0 y1 y2 y3 y4 y5 yf ⊢
    cases file with
    | false =>
      rw [if_neg (by simp)] at ha
      subst ha
      go_wp2_with fail
      go_meet
      case rel => exact ⟨_, rfl, hq, hx⟩
    | true =>
      rw [if_pos rfl] at ha
      subst ha
      go_wp2_with fail
      go_meet
      case rel => exact ⟨_, rfl, heap_setCell_same _ _ 2 _ _ (.string (bs nm)) (heap_setCell_same _ _ 1 _ _ (.string ⟨#[]⟩) hq), (hx.setCell (p := ⟨w.heap.size, 1, none⟩) (Nat.le_refl _) _).setCell (p := ⟨w.heap.size, 2, none⟩) (Nat.le_refl _) _⟩
  case rest =>
    obtain ⟨g, rfl, hq, hB⟩ := hcut
    clear ha y0 y1 y2 y3 y4 y5 yf hx
    have p1 := fun w h => pwrite_any a w hfit h
    have hWl := At.write_len hfit
    have hWr := @At.write_read a
    obtain ⟨W, hW⟩ : ∃ W, At.write a = W := ⟨_, rfl⟩
    rw [hW] at p1 hWl hWr
    clear hW
    have p2 := fun w h => pread_any W w hWl h
    obtain ⟨an, am, fl, sy, ap, nl⟩ := a
    change ∀ w, Tabs w → Calls Tryd.prog 10 #[.agg #[.string (bs an), .string (bs am), .string (bs fl), .string (bs sy), .bool ap, .bool nl]] w _ at p1
    have hq' : wc.heap[g]? = some (.cells #[.string (bs an), .string (bs am), .string (bs fl), .string (bs sy), .bool ap, .bool nl] 27) := hq
    clear hq
    obtain ⟨y0, y1, y2, y3, y4, y5⟩ := six hq'
    go_wp2_with fail
    refine (p1 _ (tabs_ext hT.out hB)).mono ?_
    rintro e w1 ⟨rfl, hb1⟩
    have hq1 := (keep hq' hb1).1
    have hB1 := ext_trans hB hb1
    clear y0 y1 y2 y3 y4 y5 hq' hB hb1 p1
    obtain ⟨y0, y1, y2, y3, y4, y5⟩ := six hq1
    obtain ⟨e, he⟩ : ∃ e, (bs W).toList.isEmpty = e := ⟨_, rfl⟩
    have hne : e = false → W ≠ [] := by rintro rfl rfl; rw [text_nil] at he; cases he
    go_upto_if 36 with fail
    go_cut [] (fun wx => Below w.heap.size w wx)
    case first =>
      cases e with
      | true =>
        clear hne
        go_wp2_with fail
        go_meet
        case rel => exact hB1
      | false =>
        rw [hWr (hne rfl)] at p2
        clear hWr hne
        change ∀ w, Tabs w → Calls Tryd.prog 12 #[.string (bs W)] w (fun e w' => e = .returned (.tuple #[.agg #[.string (bs an), .string (bs am), .string (bs fl), .string (bs sy), .bool ap, .bool nl], .bool true]) ∧ Below w.heap.size w w') at p2
        go_wp2_with fail
        refine (p2 _ (tabs_ext hT.out hB1)).mono ?_
        rintro e w2 ⟨rfl, hb2⟩
        have hq2 := (keep hq1 hb2).1
        have hB2 := Lib.hid (ext_trans hB1 hb2)
        have hlt2 := (keep hq1 hb2).2
        clear y0 y1 y2 y3 y4 y5 hq1 hB1 hb2 p2
        obtain ⟨y0, y1, y2, y3, y4, y5⟩ := six hq2
        clear hq2
        go_wp2_with fail
        go_meet
        case rel => exact hB2.out.alloc (by have := hB2.out.size; omega) _
    case rest =>
      clear hWr hne he p2 hWl y0 y1 y2 y3 y4 y5 hq1 hB1 hfit hq
      have hB := Lib.hid hcut
      clear hcut
      have hR1 := hR.out.ext hB.out
      go_wp2_with fail
      refine (hmd _ hR1).mono ?_
      rintro e w3 ⟨rfl, hb3⟩
      have hB3 := Lib.hid (ext_trans hB.out hb3)
      clear hb3 hR1
      have p2 := fun w h => pread_any T w (by omega) h
      cases hr : At.read T with
      | none =>
        rw [hr] at p2
        change ∀ w, Tabs w → Calls Tryd.prog 12 #[.string (bs T)] w (fun e w' => e = .returned (.tuple #[.agg #[.string ⟨#[]⟩, .string ⟨#[]⟩, .string ⟨#[]⟩, .string ⟨#[]⟩, .bool false, .bool false], .bool false]) ∧ Below w.heap.size w w') at p2
        go_wp2_with fail
        refine (p2 _ (tabs_ext hT.out hB3.out)).mono ?_
        rintro e w4 ⟨rfl, hb4⟩
        have hB4 := Lib.hid ((ext_trans hB3.out hb4).alloc (by have := hB3.out.size; have := hb4.size; omega) (.cells #[.string ⟨#[]⟩, .string ⟨#[]⟩, .string ⟨#[]⟩, .string ⟨#[]⟩, .bool false, .bool false] 27))
        go_wp2_with fail
        refine (known_fn _ (tabs_ext hT.out hB4.out)).mono ?_
        rintro e w5 ⟨rfl, hb5⟩
        go_wp2_with fail
        go_ret
        exact ⟨rfl, ext_trans hB4.out hb5⟩
      | some b =>
        have hfb := At.read_fits hr (by omega)
        have hc := At.read_compose hr
        have hwy := At.write_yes hc
        have hcl := At.compose_len hfb
        have p3 := fun w h => pwrite_any b w hfb h
        rw [hwy] at p3
        have p4 := fun w h => pread_any (At.compose b) w hcl h
        rw [hc] at p4
        rw [hr] at p2
        clear hwy hc hr
        generalize At.compose b = V at p3 p4 hcl
        obtain ⟨an, am, fl, sy, ap, nl⟩ := b
        change ∀ w, Tabs w → Calls Tryd.prog 12 #[.string (bs T)] w (fun e w' => e = .returned (.tuple #[.agg #[.string (bs an), .string (bs am), .string (bs fl), .string (bs sy), .bool ap, .bool nl], .bool true]) ∧ Below w.heap.size w w') at p2
        change ∀ w, Tabs w → Calls Tryd.prog 10 #[.agg #[.string (bs an), .string (bs am), .string (bs fl), .string (bs sy), .bool ap, .bool nl]] w _ at p3
        change ∀ w, Tabs w → Calls Tryd.prog 12 #[.string (bs V)] w (fun e w' => e = .returned (.tuple #[.agg #[.string (bs an), .string (bs am), .string (bs fl), .string (bs sy), .bool ap, .bool nl], .bool true]) ∧ Below w.heap.size w w') at p4
        go_wp2_with fail
        refine (p2 _ (tabs_ext hT.out hB3.out)).mono ?_
        rintro e w4 ⟨rfl, hb4⟩
        have hB4 := Lib.hid ((ext_trans hB3.out hb4).alloc (by have := hB3.out.size; have := hb4.size; omega) (.cells #[.string (bs an), .string (bs am), .string (bs fl), .string (bs sy), .bool ap, .bool nl] 27))
        have hq4 := heap_alloc_new w4 (.cells #[.string (bs an), .string (bs am), .string (bs fl), .string (bs sy), .bool ap, .bool nl] 27)
        clear hb4 p2
        go_wp2_with fail
        refine (p3 _ (tabs_ext hT.out hB4.out)).mono ?_
        rintro e w5 ⟨rfl, hb5⟩
        have hq5 := (keep hq4 hb5).1
        have hB5 := Lib.hid (ext_trans hB4.out hb5)
        clear hb5 p3 hq4
        go_wp2_with fail
        refine (p4 _ (tabs_ext hT.out hB5.out)).mono ?_
        rintro e w6 ⟨rfl, hb6⟩
        have hq6 := (keep hq5 hb6).1
        have hlt6 := (keep hq5 hb6).2
        have hB6 := Lib.hid (ext_trans hB5.out hb6)
        clear hb6 p4 hq5
        obtain ⟨y0, y1, y2, y3, y4, y5⟩ := six hq6
        clear hq6
        have hB7 := Lib.hid (hB6.out.alloc (by have := hB6.out.size; omega) (.cells #[.string (bs an), .string (bs am), .string (bs fl), .string (bs sy), .bool ap, .bool nl] 27))
        go_wp2_with fail
        refine (known_fn _ (tabs_ext hT.out hB7.out)).mono ?_
        rintro e w7 ⟨rfl, hb7⟩
        go_wp2_with fail
        go_ret
        exact ⟨rfl, ext_trans hB7.out hb7⟩

theorem back_small (la nm st : List UInt8) (file more bare : Bool) (ks : List UInt8) (A : Option Addr) (c : Nat) (w : World) (hR : Row w w.heap.size 1 A ks.length (bcells ks)) (_hc : ks.length ≤ c) (hT : Tabs w)
    (hk : la.length + nm.length + st.length + ks.length ≤ 1048576) :
    Calls Tryd.prog 5 #[.string (bs la), .string (bs nm), .string (bs st), .bool file, .bool more, .bool bare, .slice A ks.length c] w fun e w' => e = .returned (.bool true) ∧ Below w.heap.size w w' :=
  back_any la nm st file more bare ks A c w hR (by omega) (by omega) (by omega) (by omega) hT
end Go.Proofs.YtfppfaliepkhgaaDoor
