/- Law 7's BlockTells, walked. -/
import Derived.Test.YtmbcddehacfpgaaGreatDoorMt25
import Derived.Test.YtmbcddehacfpgaaGreatDoorMt26
import Derived.Test.YtmbcddehacfpgaaGreatDoorMt09
import Derived.Test.YtmbcddehacfpgaaGreatDoorMt05
namespace Go.Proofs.YtmbcddehacfpgaaGreatDoor
open Go.RowKit
attribute [local go_sem] canOp readsAs readUpon

theorem row_snoc {w : World} {B : Nat} {v : Value} {l s : List UInt8} (h : w.ownsRow B 5 1 v (l.length + s.length + 1) (bcells (l ++ s) ++ #[.int .u8 10].toList)) : w.ownsRow B 5 1 v (l ++ s ++ [10]).length (bcells (l ++ s ++ [10])) := by
  have e8 : (l ++ s ++ [10]).length = l.length + s.length + 1 := by simp only [List.length_append, List.length_cons, List.length_nil]
  have e9 : bcells (l ++ s ++ [10]) = bcells (l ++ s) ++ #[Value.int .u8 10].toList := by simp only [bcells, List.map_append]; rfl
  rw [e8, e9]
  exact h
theorem tape_new (w : World) (xs : List Int) (A : Option Addr) (c : Nat) (h : Row w w.heap.size 1 A xs.length (icells xs)) (hc : xs.length ≤ c) (hl : xs.length ≤ 1000000000000) :
    TapeAt (w.alloc (.cells #[.slice A xs.length c, .int .i64 0] 29)) w.heap.size :=
  ⟨A, xs.length, c, 0, xs, heap_alloc_new w _, by omega, hc, hl, h.below (ext_alloc w _)⟩

set_option maxHeartbeats 4000000 in
set_option maxRecDepth 100000 in
theorem tells_any (xs : List Int) (A0 : Option Addr) (c0 : Nat) (lb : List UInt8) (A1 : Option Addr) (c1 : Nat) (rs : List (List UInt8)) (A2 : Option Addr) (c2 : Nat) (w : World)
    (h0 : Row w w.heap.size 1 A0 xs.length (icells xs)) (hc0 : xs.length ≤ c0) (h1 : Row w w.heap.size 1 A1 lb.length (bcells lb)) (hc1 : lb.length ≤ c1) (h2 : Row w w.heap.size 1 A2 rs.length (scells rs)) (_ : rs.length ≤ c2)
    (hx : xs.length ≤ 1048576) (hlb : lb.length ≤ 1048576) (hrs : rs.length ≤ 1048576) (hrt : ∀ s ∈ rs, s.length ≤ 1048576) :
    Calls Tryz.prog 4 #[.slice A0 xs.length c0, .slice A1 lb.length c1, .slice A2 rs.length c2] w fun e w' => e = .returned (.bool true) ∧ Below w.heap.size w w' := by
  have hT := tape_new w xs A0 c0 h0 hc0 (by omega)
  have hbA := ext_alloc w (.cells #[.slice A0 xs.length c0, .int .i64 0] 29)
  have hzA : (w.alloc (.cells #[.slice A0 xs.length c0, .int .i64 0] 29)).heap.size = w.heap.size + 1 := by simp
  have hm := fun w' h => markdown_any w' w.heap.size h 40 (by omega) 40 rfl
  replace h1 := Lib.hid h1
  replace h2 := Lib.hid h2
  replace hbA := Lib.hid hbA
  replace hm := Lib.hid hm
  replace hT := Lib.hid hT
  clear h0
  go_enter Tryz.func4, Tryz.ntmps4
  go_wp2_with fail
  generalize w.alloc (.cells #[.slice A0 xs.length c0, .int .i64 0] 29) = wa at hT hbA hzA ⊢
  refine (hm.out wa hT.out).mono ?_
  rintro e w1 ⟨vx, lx, rfl, hox, hlx, _, hb1⟩
  obtain ⟨Ax, cx, rfl, hcx⟩ := own_shape hox
  have hb01 := Lib.hid (hbA.out.trans hb1)
  replace hox := Lib.hid hox
  have hz1 : w.heap.size + 1 ≤ w1.heap.size := by have := hb1.size; omega
  clear hb1 hbA hm hT
  go_wp2_with fail
  go_loopw [8, 9] (fun v i wr => ∃ (k : Nat) (l : List UInt8), i = .int .i64 (k : Int) ∧ k ≤ rs.length ∧ k ≤ 20 ∧ l.length ≤ k * 1048577 ∧ Hid (wr.ownsRow w1.heap.size 5 1 v l.length (bcells l)) ∧ Hid (Below w1.heap.size w1 wr)) (fun _ i _ => 21 - (intOf i).toNat)
  case atStart => exact ⟨0, [], rfl, by omega, by omega, by simp, Lib.hid ⟨rfl, .inl ⟨rfl, rfl⟩⟩, Lib.hid (Below.refl _ _)⟩
  case round =>
    obtain ⟨k, l, rfl, hk1, hk2, hll, hown, hb⟩ := hrel
    obtain ⟨Ay, cy, rfl, hcy⟩ := own_shape hown.out
    have hkk : (0 : Int) ≤ (k : Int) := by omega
    by_cases hgo : k < rs.length ∧ k < 20
    · obtain ⟨hg1, hg2⟩ := hgo
      have hg1' : (k : Int) < (rs.length : Int) := by omega
      have hg2' : (k : Int) < 20 := by omega
      obtain ⟨b, o, rfl, hbb, hcc⟩ := h2.out.2 (by omega)
      have hsc := (hb01.out.trans (hb.out.mono (by omega))).cell (p := ⟨b, o + k, none⟩) hbb
      have hsk := hsc.trans (hcc k (.string (bs rs[k])) (by simp [scells, List.getElem?_eq_getElem hg1]))
      have hst := hrt rs[k] (List.getElem_mem hg1)
      obtain ⟨s, hs⟩ : ∃ s, rs[k] = s := ⟨_, rfl⟩
      rw [hs] at hsk hst
      have hbz := hb.out.size
      clear hsc hcc hs
      go_wp2_with (first
        | (at_builtin; refine wpList_app_text rfl (.tmp 24) (.tmp 28) rfl byteEI byteZ Tryz.underlying9 rfl hown.out rfl (by omega) (by omega) ?_; intro v1 w3 hown3 hg3 hb3; have hz3 := hb3.size)
        | (at_builtin; refine wpList_app_new rfl (.tmp 29) (.tmp 30) rfl byteEI rfl hown3 rfl rfl rfl (by intro u hu; simp at hu; subst hu; rfl) (by omega) (by omega) (by omega) ?_; intro v4 w4 hown4 hg4 hb4))
      go_roundw
      case rel => exact ⟨k + 1, l ++ s ++ [10], by go_num, by omega, by omega, by simp only [List.length_append, List.length_cons, List.length_nil]; omega, Lib.hid (row_snoc hown4), Lib.hid (hb.out.trans (hb3.trans hb4))⟩
      case measure => simp [intOf]; omega
    · have hstop : (rs.length : Int) ≤ (k : Int) ∨ (k : Int) < (rs.length : Int) ∧ (20 : Int) ≤ (k : Int) := by omega
      have hll9 : l.length ≤ 20971540 := by omega
      clear hgo
      have hbW := Lib.hid (hb01.out.trans (hb.out.mono (by omega)))
      have hoxr := Lib.hid (own_below hox.out hb.out)
      have hzr := hb.out.size
      rcases hstop with hs1 | ⟨hs1, hs2⟩
      all_goals
        go_upto_region 7 with fail
        refine wp_region_lit ?_
        repeat (first | refine wpList_move rfl ?_ | (refine wpList_wanted rfl ?_; intro K hK; go_simp; refine hK _ _ ?_; clear hK K))
        refine wpList_wanted rfl ?_
        intro K hK
        go_simp
        refine (reads_any lx Ax cx wr (Row.own hoxr.out) hcx (by omega)).mono ?_
        rintro e w2 ⟨rfl, hq1⟩
        have hbW2 := Lib.hid (ext_trans hbW.out (show Below wr.heap.size wr w2 from hq1))
        have hox2 := Lib.hid (own_below hoxr.out hq1)
        have hoy2 := Lib.hid (own_below hown.out hq1)
        have hz2 := hq1.size
        clear hq1
        refine hK _ _ ?_
        clear hK K
        repeat (first | refine wpList_move rfl ?_ | (refine wpList_wanted rfl ?_; intro K hK; go_simp; refine hK _ _ ?_; clear hK K))
        refine wpList_wanted rfl ?_
        intro K hK
        go_simp
        refine (reads_any lb A1 c1 w2 (h1.out.ext hbW2.out) hc1 (by omega)).mono ?_
        rintro e w3 ⟨rfl, hq1⟩
        have hbW3 := Lib.hid (ext_trans hbW2.out hq1)
        have hox3 := Lib.hid (own_below hox2.out hq1)
        have hoy3 := Lib.hid (own_below hoy2.out hq1)
        have hz3 := hq1.size
        clear hq1
        refine hK _ _ ?_
        clear hK K
        repeat (first | refine wpList_move rfl ?_ | (refine wpList_wanted rfl ?_; intro K hK; go_simp; refine hK _ _ ?_; clear hK K))
        refine wpList_wanted rfl ?_
        intro K hK
        go_simp
        refine (reads_any l Ay cy w3 (Row.own hoy3.out) hcy (by omega)).mono ?_
        rintro e w4 ⟨rfl, hq1⟩
        have hbW4 := Lib.hid (ext_trans hbW3.out hq1)
        have hox4 := Lib.hid (own_below hox3.out hq1)
        have hz4 := hq1.size
        clear hq1
        refine hK _ _ ?_
        clear hK K
        repeat (first | refine wpList_move rfl ?_ | (refine wpList_wanted rfl ?_; intro K hK; go_simp; refine hK _ _ ?_; clear hK K))
        refine wpList_wanted rfl ?_
        intro K hK
        refine wp_app_row (.tmp 43) (.tmp 44) rfl byteEI rfl hox4.out rfl (h1.out.ext hbW4.out) (bcells_one lb) (by omega) (by omega) (by omega) ?_
        intro v5 w5 hown5 hg5 hb5
        have hbW5 := Lib.hid (hbW4.out.trans (hb5.mono (by omega)))
        have hz5 := hb5.size
        refine hK _ _ ?_
        clear hK K hb5 hg5
        obtain ⟨A5, c5, rfl, hc5⟩ := own_shape hown5
        have hown6 : w5.ownsRow (w.heap.size + 1) 5 1 (.slice A5 (lx ++ lb).length c5) (lx ++ lb).length (bcells (lx ++ lb)) := by rw [List.length_append, show bcells (lx ++ lb) = bcells lx ++ bcells lb from by simp [bcells]]; exact hown5
        have hl5 : (lx ++ lb).length = lx.length + lb.length := List.length_append
        rw [← hl5] at hc5
        replace hown6 := Lib.hid hown6
        clear hown5
        repeat (first | refine wpList_move rfl ?_ | (refine wpList_wanted rfl ?_; intro K hK; go_simp; refine hK _ _ ?_; clear hK K))
        refine wpList_wanted rfl ?_
        intro K hK
        go_simp
        refine (show Calls Tryz.prog 5 #[.slice A5 (lx.length + lb.length) c5] w5 _ from hl5 ▸ reads_any (lx ++ lb) A5 c5 w5 (Row.own hown6.out) hc5 (by omega)).mono ?_
        rintro e w6 ⟨rfl, hq1⟩
        have hbW6 := Lib.hid (ext_trans hbW5.out hq1)
        have hz6 := hq1.size
        clear hq1
        refine hK _ _ ?_
        clear hK K
        repeat (first | refine wpList_move rfl ?_ | (refine wpList_wanted rfl ?_; intro K hK; go_simp; refine hK _ _ ?_; clear hK K))
        refine wpList_wanted rfl ?_
        intro K hK
        go_simp
        refine (bknown_any w6).mono ?_
        rintro e w7 ⟨rfl, hq1⟩
        refine hK _ _ ?_
        clear hK K
        repeat (first | refine wpList_move rfl ?_ | (refine wpList_wanted rfl ?_; intro K hK; go_simp; refine hK _ _ ?_; clear hK K))
        refine wpList_nil ?_
        go_wp2_with fail
        go_ret
        exact ⟨rfl, ext_trans hbW6.out hq1⟩

theorem tells_small (xs : List Int) (A0 : Option Addr) (c0 : Nat) (lb : List UInt8) (A1 : Option Addr) (c1 : Nat) (rs : List (List UInt8)) (A2 : Option Addr) (c2 : Nat) (w : World)
    (h0 : Row w w.heap.size 1 A0 xs.length (icells xs)) (hc0 : xs.length ≤ c0) (h1 : Row w w.heap.size 1 A1 lb.length (bcells lb)) (hc1 : lb.length ≤ c1) (h2 : Row w w.heap.size 1 A2 rs.length (scells rs)) (hc2 : rs.length ≤ c2)
    (hk : xs.length + lb.length + heft rs ≤ 1048576) :
    Calls Tryz.prog 4 #[.slice A0 xs.length c0, .slice A1 lb.length c1, .slice A2 rs.length c2] w fun e w' => e = .returned (.bool true) ∧ Below w.heap.size w w' :=
  tells_any xs A0 c0 lb A1 c1 rs A2 c2 w h0 hc0 h1 hc1 h2 hc2 (by omega) (by omega) (by have := (heft_len rs).1; omega) (fun s hs => by have := heft_mem hs; omega)
end Go.Proofs.YtmbcddehacfpgaaGreatDoor
