/- A tape's pieces: a fence with lines. -/
import Derived.Test.YtmmgfoepfapnkaaGreatDoorQ13
import Derived.Test.YtmmgfoepfapnkaaGreatDoorQ04
import Derived.Test.YtmmgfoepfapnkaaGreatDoorQ02
import Derived.Test.YtmmgfoepfapnkaaGreatDoorQ03
import Derived.Deep.DeepCutAuto
namespace Go.Proofs.YtmmgfoepfapnkaaGreatDoor
open Go.RowKit
attribute [local go_sem] canOp readsAs readUpon

theorem aside_frame {g : Nat} {w w' : World} (h : Aside g w w') {b : Nat} (hq : b < w.heap.size ∧ b ≠ g) : w'.heap[b]? = w.heap[b]? := h.2.2 b hq.1 hq.2
theorem ownM_aside {g : Nat} {w w' : World} {base : Nat} {e : TypeId} {v : Value} {l : List UInt8} (h : OwnM w base e v l) (ha : Aside g w w') (hg : g < base) : OwnM w' base e v l :=
  h.frame fun k hk => ha.2.2 k (h.lt k hk).2 (by have := (h.lt k hk).1; omega)
theorem tape_grown {g : Nat} {w w' : World} {row : Option Nat} (h : TapeAt w g) (hg : w.grownBy w' row) (hr : ∀ k, row = some k → g < k) : TapeAt w' g :=
  h.below ((Below.refl (g + 1) w).grown hg h.lt (fun k hk => hr k hk))
theorem bytes_aside (g : Nat) {w : World} (e : TypeId) (l : List UInt8) (hg : g < w.heap.size) : Aside g w (Lib.bytesWorld w e (bs l)) := by
  have hs : (Lib.bytesWorld w e (bs l)).heap.size = w.heap.size + 1 := Lib.bytesWorld_size w e (bs l)
  refine Aside.of_ext ⟨rfl, rfl, rfl, by omega, fun k hk => Lib.bytesWorld_at_old w e (bs l) k hk⟩ hg
theorem tpByteEI : EI Tryz.prog 31 5 1 1 := EI.mk' (z := .int .u8 0) Tryz.underlying31 (by kernel_rfl) rfl (by omega)
theorem tpByteZ : (Tryz.prog.info? 5).map (fun i => i.zero) = some (some (.int .u8 0)) := by kernel_rfl

set_option maxHeartbeats 8000000 in
set_option maxRecDepth 100000 in
theorem tpiece_any (w : World) (g : Nat) (h : TapeAt w g) (info : List UInt8) (ls : List (List UInt8)) (A : Option Addr) (c k : Nat) (hR : RowE w (fun b => b < w.heap.size ∧ b ≠ g) 1 A ls.length (scells ls)) (hn : ls.length ≤ 6) (hs : ∀ s ∈ ls, s.length ≤ 40) (hi : info.length ≤ 100) :
    Calls Tryz.prog 72 #[.pointer (some ⟨g, 0, none⟩), .string (bs info), .slice A ls.length c, .int .i64 (k : Int)] w fun e w' => ∃ (v : Value) (l : List UInt8), e = .returned v ∧ OwnM w' w.heap.size 5 v l ∧ l.length ≤ 1000 ∧ TapeAt w' g ∧ Aside g w w' := by
  have hglt := h.lt
  have hN := fun l t hl ha => next_lit w g h l t 6 2 hl (by omega) (by omega) ha 2 rfl
  obtain ⟨n, hn9⟩ : ∃ n, ls.length = n := ⟨_, rfl⟩
  rw [hn9] at hn hR ⊢
  have hR := Lib.hid hR
  replace hs := Lib.hid hs
  replace hn9 := Lib.hid hn9
  replace hN := Lib.hid hN
  have zi := bs_size info
  go_enter Tryz.func72, Tryz.ntmps72
  go_wp2_with fail
  refine (hN.out _ _ (by kernel_rfl) (by kernel_rfl)).mono ?_
  rintro e w1 ⟨r, f, rfl, hr, hc, hf, hT, hA⟩
  have hr0 : (0 : Int) ≤ (r : Int) := by omega
  have hr1 : (r : Int) < 2 := by omega
  have zf := bs_size f
  have hlt1 := hT.lt
  replace hT := Lib.hid hT
  replace hA := Lib.hid hA
  clear hN
  go_upto_region 2 with fail
  have hz1 : w1.drew.heap.size = w1.heap.size := rfl
  have hTd : TapeAt w1.drew g := hT.out
  have hAd : Aside g w w1.drew := hA.out.drewN 1
  refine wp_region_tree (.rd 0 (.rd 2 (.rd 7 (.rd 9 (.rd 10 (.fk 1 (.mk 3 (.rd 4 (.rd 5 (.rd 6 (.rd 8 (.mk 11 (.rd 12 (.mk 13 (.rd 14 .fin))))))))) 3 (.fk 1 (.rd 4 (.rd 5 (.rd 6 (.rd 8 (.mk 11 (.rd 12 (.mk 13 (.rd 14 .fin)))))))) 11 (.mk 1 (.rd 4 (.rd 5 (.rd 6 (.rd 8 (.rd 12 (.mk 13 (.rd 14 .fin))))))))))))))) (fun _ => True) trivial (by kernel_rfl) (by kernel_rfl) (by kernel_rfl) (fun _ _ d _ _ h => by cases d <;> exact h) ?_
  generalize w1.drew = wd at hTd hAd ⊢
  replace hTd := Lib.hid hTd
  replace hAd := Lib.hid hAd
  have hltd := hTd.out.lt
  have hgd : w.heap.size ≤ wd.heap.size := hAd.out.2.1
  repeat (first | refine wpT_move rfl ?_ | (refine wpT_rd rfl ?_; intro K hK; go_simp; refine hK _ _ _ ?_; clear hK K))
  refine wpT_fk ?wa ?wb
  case' wa =>
    refine wpT_mk rfl ?_
    intro K hK
    go_simp
    refine ⟨fun _ => True, trivial, hK _ _ _ ?_⟩
    clear hK K
    refine wpT_mk rfl ?_
    intro K hK
    go_simp
    refine (next_lit wd g hTd.out _ _ 3 3 (by kernel_rfl) (by omega) (by omega) (by kernel_rfl) 3 rfl).mono ?_
    rintro e wl ⟨r2, s, rfl, hr2, hcl, hs2, hTl, hAl⟩
    have hr20 : (0 : Int) ≤ (r2 : Int) := by omega
    have hr21 : (r2 : Int) < 3 := by omega
    have zs := bs_size s
    generalize hql : wd.heap.size = ql at hcl ⊢
    refine ⟨(fun u : World => u.cell? ⟨ql, r2, none⟩ = some (.string (bs s))), hcl, hK _ _ _ ?_⟩
    clear hK K
    have hqlt : ql < wl.heap.size := by
      rcases Nat.lt_or_ge ql wl.heap.size with h | h
      · exact h
      · rw [show wl.cell? ⟨ql, r2, none⟩ = none from by unfold World.cell?; rw [Array.getElem?_eq_none h]] at hcl; cases hcl
    replace hAl := Lib.hid (hAd.out.trans hAl)
    replace hTl := Lib.hid hTl
    have hc1 : ¬ 9223372036854775807 < f.length + s.length := by omega
    have hc2 : ¬ 9223372036854775807 < f.length + s.length + info.length := by omega
    repeat (first | refine wpT_move rfl ?_ | (refine wpT_rd rfl ?_; intro K hK; go_simp; refine hK _ _ _ ?_; clear hK K))
    refine wpT_read (.string (bs s)) rfl rfl hcl (fun u hu => by go_simp) ?_
    repeat (first | refine wpT_move rfl ?_ | (refine wpT_rd rfl ?_; intro K hK; go_simp; refine hK _ _ _ ?_; clear hK K))
    refine wpT_mk rfl ?_
    intro K hK
    go_simp
    refine (end_any wl g hTl.out k).mono ?_
    rintro e wm ⟨en, rfl, hen, hTm, hAm⟩
    have hqmt : ql < wm.heap.size := Nat.lt_of_lt_of_le hqlt hAm.2.1
    have hcm : wm.cell? ⟨ql, r2, none⟩ = some (.string (bs s)) := (World.cell?_of_block (hAm.2.2 ql hqlt (by omega))).trans hcl
    refine ⟨(fun u : World => u.cell? ⟨ql, r2, none⟩ = some (.string (bs s))), hcm, fun _ h => h, hK _ _ _ ?_⟩
    clear hK K
    have ze := bs_size en
    have hc3 : ¬ 9223372036854775807 < f.length + s.length + info.length + en.length := by omega
    have hAx := Lib.hid (hAl.out.trans hAm)
    have hTx := Lib.hid hTm
    clear hAm hTm
    replace hcl := hcm
    repeat (first | refine wpT_move rfl ?_ | (refine wpT_rd rfl ?_; intro K hK; go_simp; refine hK _ _ _ ?_; clear hK K))
    have ztx : (bs f ++ bs s ++ bs info ++ bs en) = bs (f ++ s ++ info ++ en) := by simp only [bs_append]
    have zl : (f ++ s ++ info ++ en).length = f.length + s.length + info.length + en.length := by simp only [List.length_append]
    obtain ⟨l0, hl0e⟩ : ∃ l0, f ++ s ++ info ++ en = l0 := ⟨_, rfl⟩
    rw [hl0e] at ztx zl
    have hrb0 := run_bytes l0 wm
    have hnw := OwnM.new wm 5 l0 (by omega) w.heap.size hAx.out.2.1
    have hT0 := Lib.hid (hTx.out.ext (⟨rfl, rfl, rfl, by rw [Lib.bytesWorld_size]; omega, fun k hk => Lib.bytesWorld_at_old wm _ (bs l0) k hk⟩ : Below wm.heap.size wm (Lib.bytesWorld wm 5 (bs l0))))
    have hA0 := Lib.hid (hAx.out.trans (bytes_aside g 5 l0 hTx.out.lt))
    have ho0 := Lib.hid hnw
    have hlm : l0.length ≤ 200 := by omega
    replace zl := Lib.hid zl
    have hcn := (Lib.bytesWorld_old wm 5 (bs l0) ⟨ql, r2, none⟩ hqmt).trans hcl
    clear hnw hl0e
    refine wpT_mk rfl ?_
    intro K hK
    go_simp
    refine ⟨(fun u : World => u.cell? ⟨ql, r2, none⟩ = some (.string (bs s))), hcn, fun _ h => h, hK _ _ _ ?_⟩
    clear hK K
    repeat (first | refine wpT_move rfl ?_ | (refine wpT_rd rfl ?_; intro K hK; go_simp; refine hK _ _ _ ?_; clear hK K))
    refine wpT_fin ?_
    clear hcn hcl
    go_wp2_with fail
    go_loopw [10, 34] (fun v u wr => ∃ (j : Nat) (l : List UInt8), j ≤ n ∧ u = .int .i64 (j : Int) ∧ l.length ≤ 200 + j * 60 ∧ Hid (OwnM wr w.heap.size 5 v l) ∧ Hid (TapeAt wr g) ∧ Hid (Aside g w wr)) (fun _ u _ => n - (intOf u).toNat)
    case atStart => exact ⟨0, l0, by omega, rfl, by omega, ho0, hT0, hA0⟩
    case round =>
      obtain ⟨j, l, hj, rfl, hl, ho, hTr, hAr⟩ := hrel
      obtain ⟨vA, vc, rfl, hvc⟩ := ho.out.shape
      have hgr : w.heap.size ≤ wr.heap.size := hAr.out.2.1
      have hrb : ∀ k, (Value.slice vA l.length vc).ownBlock = some k → w.heap.size ≤ k := fun k e => (ho.out.lt k e).1
      replace hrb := Lib.hid hrb
      have hltr := hTr.out.lt
      rcases Nat.lt_or_ge j n with hlt | hge
      · obtain ⟨b, o, rfl, hbq, hcc⟩ := (hR.out.frame (fun b hq => aside_frame hAr.out hq) (fun b hq => hq) : RowE wr (fun b => b < w.heap.size ∧ b ≠ g) 1 A n (scells ls)).2 (by omega)
        have hj' : j < ls.length := by rw [hn9.out]; exact hlt
        have hcj := hcc j _ (show (scells ls)[j]? = some (.string (bs ls[j])) by simp [scells, List.getElem?_map, List.getElem?_eq_getElem hj'])
        have hsl := hs.out _ (List.getElem_mem hj')
        obtain ⟨x, hx⟩ : ∃ x, ls[j] = x := ⟨_, rfl⟩
        rw [hx] at hcj hsl
        clear hcc hx
        go_wp2_with (at_builtin; refine wpList_app_mark rfl (.tmp 38) (.tmp 39) rfl tpByteEI tpByteZ Tryz.underlying9 rfl ho.out rfl (by omega) (by omega) ?_; intro v5 w5 ho5 hg5 hat5)
        have hT5 := tape_grown hTr.out hg5.out (fun k e => by have := hrb.out k e; omega)
        have hA5 := aside_grown hAr.out hg5.out hglt hrb.out
        refine (end_any w5 g hT5 k).mono ?_
        rintro e w6 ⟨s6, rfl, hs6, hT6, hA6⟩
        have ho6 := Lib.hid (ownM_aside ho5 hA6 hglt)
        have hA7 := Lib.hid (hA5.trans hA6)
        have hg6 : w.heap.size ≤ w6.heap.size := hA7.out.2.1
        have hll : (l ++ x).length = l.length + x.length := List.length_append
        replace hT6 := Lib.hid hT6
        clear hA5 hA6 hT5 ho5 hg5 hat5 hcj
        have hrb6 := Lib.hid (fun k e => (ho6.out.lt k e).1)
        go_wp2_with (at_builtin; refine wpList_app_mark rfl (.tmp 40) (.tmp 43) rfl tpByteEI tpByteZ Tryz.underlying9 rfl ho6.out rfl (by omega) (by omega) ?_; intro v8 w8 ho8 hg8 hat8)
        have hT8 := Lib.hid (tape_grown hT6.out hg8.out (fun k e => by have := hrb6.out k e; omega))
        have hA8 := Lib.hid (aside_grown hA7.out hg8.out hglt hrb6.out)
        have hl2 : (l ++ x ++ s6).length = l.length + x.length + s6.length := by rw [List.length_append, hll]
        go_roundw
        case rel => exact ⟨j + 1, l ++ x ++ s6, by omega, by go_num, by omega, Lib.hid ho8, hT8, hA8⟩
        case measure => simp [intOf]; omega
      · obtain rfl : j = n := by omega
        have hjn : ¬ (j : Int) < (j : Int) := by omega
        go_wp2_with (at_builtin; refine wpList_app_mark rfl (.tmp 46) (.tmp 47) rfl tpByteEI tpByteZ Tryz.underlying9 rfl ho.out rfl (by omega) (by omega) ?_; intro v5 w5 ho5 hg5 hat5)
        have hT5 := tape_grown hTr.out hg5.out (fun k e => by have := hrb.out k e; omega)
        have hA5 := aside_grown hAr.out hg5.out hglt hrb.out
        refine (end_any w5 g hT5 k).mono ?_
        rintro e w6 ⟨s6, rfl, hs6, hT6, hA6⟩
        have ho6 := Lib.hid (ownM_aside ho5 hA6 hglt)
        have hA7 := Lib.hid (hA5.trans hA6)
        have hg6 : w.heap.size ≤ w6.heap.size := hA7.out.2.1
        have hll : (l ++ f).length = l.length + f.length := List.length_append
        replace hT6 := Lib.hid hT6
        clear hA5 hA6 hT5 ho5 hg5 hat5
        have hrb6 := Lib.hid (fun k e => (ho6.out.lt k e).1)
        go_wp2_with (at_builtin; refine wpList_app_mark rfl (.tmp 48) (.tmp 51) rfl tpByteEI tpByteZ Tryz.underlying9 rfl ho6.out rfl (by omega) (by omega) ?_; intro v8 w8 ho8 hg8 hat8)
        have hT8 := Lib.hid (tape_grown hT6.out hg8.out (fun k e => by have := hrb6.out k e; omega))
        have hA8 := Lib.hid (aside_grown hA7.out hg8.out hglt hrb6.out)
        have hl2 : (l ++ f ++ s6).length = l.length + f.length + s6.length := by rw [List.length_append, hll]
        go_returns
        exact ⟨_, _, rfl, ho8, by omega, hT8.out, hA8.out⟩
  case' wb =>
    refine wpT_mk rfl ?_
    intro K hK
    go_simp
    refine (next_of wd g hTd.out 3 (by omega) 3 rfl).mono ?_
    rintro e w3 ⟨r2, rfl, hr2, hT3, hA3⟩
    have hr2 : r2 < 3 := by omega
    have hr20 : (0 : Int) ≤ (r2 : Int) := by omega
    have hr21 : (r2 : Int) < 3 := by omega
    refine ⟨fun _ => True, trivial, hK _ _ _ ?_⟩
    clear hK K
    have hTx := Lib.hid hT3
    have hAx := Lib.hid (hAd.out.trans hA3)
    clear hT3 hA3
    refine wpT_fk ?wc ?wd
    case' wc =>
      obtain ⟨s, hcl, hs2⟩ := lit_short (heap_alloc_new w3 (.cells #[.string ⟨#[]⟩, .string ⟨#[32]⟩, .string ⟨#[103, 111, 32]⟩] 9)) (n := 3) (by kernel_rfl) (j := r2) (by simpa using hr2)
      have zs := bs_size s
      have hgq : g < w3.heap.size := hTx.out.lt
      have hTl := Lib.hid (hTx.out.ext (ext_alloc w3 (.cells #[.string ⟨#[]⟩, .string ⟨#[32]⟩, .string ⟨#[103, 111, 32]⟩] 9)))
      have hAl := Lib.hid (hAx.out.trans (Aside.of_ext (ext_alloc w3 (.cells #[.string ⟨#[]⟩, .string ⟨#[32]⟩, .string ⟨#[103, 111, 32]⟩] 9)) hTx.out.lt))
      refine wpT_mk rfl ?_
      intro K hK
      go_simp
      refine ⟨(fun u : World => u.cell? ⟨w3.heap.size, r2, none⟩ = some (.string (bs s))), hcl, hK _ _ _ ?_⟩
      clear hK K
      generalize hql : w3.heap.size = ql at hcl ⊢
      generalize w3.alloc (.cells #[.string ⟨#[]⟩, .string ⟨#[32]⟩, .string ⟨#[103, 111, 32]⟩] 9) = wl at hcl hTl hAl ⊢
      have hqlt : ql < wl.heap.size := by
        rcases Nat.lt_or_ge ql wl.heap.size with h | h
        · exact h
        · rw [show wl.cell? ⟨ql, r2, none⟩ = none from by unfold World.cell?; rw [Array.getElem?_eq_none h]] at hcl; cases hcl
      have hc1 : ¬ 9223372036854775807 < f.length + s.length := by omega
      have hc2 : ¬ 9223372036854775807 < f.length + s.length + info.length := by omega
      repeat (first | refine wpT_move rfl ?_ | (refine wpT_rd rfl ?_; intro K hK; go_simp; refine hK _ _ _ ?_; clear hK K))
      refine wpT_read (.string (bs s)) rfl rfl hcl (fun u hu => by go_simp) ?_
      repeat (first | refine wpT_move rfl ?_ | (refine wpT_rd rfl ?_; intro K hK; go_simp; refine hK _ _ _ ?_; clear hK K))
      refine wpT_mk rfl ?_
      intro K hK
      go_simp
      refine (end_any wl g hTl.out k).mono ?_
      rintro e wm ⟨en, rfl, hen, hTm, hAm⟩
      have hqmt : ql < wm.heap.size := Nat.lt_of_lt_of_le hqlt hAm.2.1
      have hcm : wm.cell? ⟨ql, r2, none⟩ = some (.string (bs s)) := (World.cell?_of_block (hAm.2.2 ql hqlt (by omega))).trans hcl
      refine ⟨(fun u : World => u.cell? ⟨ql, r2, none⟩ = some (.string (bs s))), hcm, fun _ h => h, hK _ _ _ ?_⟩
      clear hK K
      have ze := bs_size en
      have hc3 : ¬ 9223372036854775807 < f.length + s.length + info.length + en.length := by omega
      have hAx := Lib.hid (hAl.out.trans hAm)
      have hTx := Lib.hid hTm
      clear hAm hTm
      replace hcl := hcm
      repeat (first | refine wpT_move rfl ?_ | (refine wpT_rd rfl ?_; intro K hK; go_simp; refine hK _ _ _ ?_; clear hK K))
      have ztx : (bs f ++ bs s ++ bs info ++ bs en) = bs (f ++ s ++ info ++ en) := by simp only [bs_append]
      have zl : (f ++ s ++ info ++ en).length = f.length + s.length + info.length + en.length := by simp only [List.length_append]
      obtain ⟨l0, hl0e⟩ : ∃ l0, f ++ s ++ info ++ en = l0 := ⟨_, rfl⟩
      rw [hl0e] at ztx zl
      have hrb0 := run_bytes l0 wm
      have hnw := OwnM.new wm 5 l0 (by omega) w.heap.size hAx.out.2.1
      have hT0 := Lib.hid (hTx.out.ext (⟨rfl, rfl, rfl, by rw [Lib.bytesWorld_size]; omega, fun k hk => Lib.bytesWorld_at_old wm _ (bs l0) k hk⟩ : Below wm.heap.size wm (Lib.bytesWorld wm 5 (bs l0))))
      have hA0 := Lib.hid (hAx.out.trans (bytes_aside g 5 l0 hTx.out.lt))
      have ho0 := Lib.hid hnw
      have hlm : l0.length ≤ 200 := by omega
      replace zl := Lib.hid zl
      have hcn := (Lib.bytesWorld_old wm 5 (bs l0) ⟨ql, r2, none⟩ hqmt).trans hcl
      clear hnw hl0e
      refine wpT_mk rfl ?_
      intro K hK
      go_simp
      refine ⟨(fun u : World => u.cell? ⟨ql, r2, none⟩ = some (.string (bs s))), hcn, fun _ h => h, hK _ _ _ ?_⟩
      clear hK K
      repeat (first | refine wpT_move rfl ?_ | (refine wpT_rd rfl ?_; intro K hK; go_simp; refine hK _ _ _ ?_; clear hK K))
      refine wpT_fin ?_
      clear hcn hcl
      go_wp2_with fail
      go_loopw [10, 34] (fun v u wr => ∃ (j : Nat) (l : List UInt8), j ≤ n ∧ u = .int .i64 (j : Int) ∧ l.length ≤ 200 + j * 60 ∧ Hid (OwnM wr w.heap.size 5 v l) ∧ Hid (TapeAt wr g) ∧ Hid (Aside g w wr)) (fun _ u _ => n - (intOf u).toNat)
      case atStart => exact ⟨0, l0, by omega, rfl, by omega, ho0, hT0, hA0⟩
      case round =>
        obtain ⟨j, l, hj, rfl, hl, ho, hTr, hAr⟩ := hrel
        obtain ⟨vA, vc, rfl, hvc⟩ := ho.out.shape
        have hgr : w.heap.size ≤ wr.heap.size := hAr.out.2.1
        have hrb : ∀ k, (Value.slice vA l.length vc).ownBlock = some k → w.heap.size ≤ k := fun k e => (ho.out.lt k e).1
        replace hrb := Lib.hid hrb
        have hltr := hTr.out.lt
        rcases Nat.lt_or_ge j n with hlt | hge
        · obtain ⟨b, o, rfl, hbq, hcc⟩ := (hR.out.frame (fun b hq => aside_frame hAr.out hq) (fun b hq => hq) : RowE wr (fun b => b < w.heap.size ∧ b ≠ g) 1 A n (scells ls)).2 (by omega)
          have hj' : j < ls.length := by rw [hn9.out]; exact hlt
          have hcj := hcc j _ (show (scells ls)[j]? = some (.string (bs ls[j])) by simp [scells, List.getElem?_map, List.getElem?_eq_getElem hj'])
          have hsl := hs.out _ (List.getElem_mem hj')
          obtain ⟨x, hx⟩ : ∃ x, ls[j] = x := ⟨_, rfl⟩
          rw [hx] at hcj hsl
          clear hcc hx
          go_wp2_with (at_builtin; refine wpList_app_mark rfl (.tmp 38) (.tmp 39) rfl tpByteEI tpByteZ Tryz.underlying9 rfl ho.out rfl (by omega) (by omega) ?_; intro v5 w5 ho5 hg5 hat5)
          have hT5 := tape_grown hTr.out hg5.out (fun k e => by have := hrb.out k e; omega)
          have hA5 := aside_grown hAr.out hg5.out hglt hrb.out
          refine (end_any w5 g hT5 k).mono ?_
          rintro e w6 ⟨s6, rfl, hs6, hT6, hA6⟩
          have ho6 := Lib.hid (ownM_aside ho5 hA6 hglt)
          have hA7 := Lib.hid (hA5.trans hA6)
          have hg6 : w.heap.size ≤ w6.heap.size := hA7.out.2.1
          have hll : (l ++ x).length = l.length + x.length := List.length_append
          replace hT6 := Lib.hid hT6
          clear hA5 hA6 hT5 ho5 hg5 hat5 hcj
          have hrb6 := Lib.hid (fun k e => (ho6.out.lt k e).1)
          go_wp2_with (at_builtin; refine wpList_app_mark rfl (.tmp 40) (.tmp 43) rfl tpByteEI tpByteZ Tryz.underlying9 rfl ho6.out rfl (by omega) (by omega) ?_; intro v8 w8 ho8 hg8 hat8)
          have hT8 := Lib.hid (tape_grown hT6.out hg8.out (fun k e => by have := hrb6.out k e; omega))
          have hA8 := Lib.hid (aside_grown hA7.out hg8.out hglt hrb6.out)
          have hl2 : (l ++ x ++ s6).length = l.length + x.length + s6.length := by rw [List.length_append, hll]
          go_roundw
          case rel => exact ⟨j + 1, l ++ x ++ s6, by omega, by go_num, by omega, Lib.hid ho8, hT8, hA8⟩
          case measure => simp [intOf]; omega
        · obtain rfl : j = n := by omega
          have hjn : ¬ (j : Int) < (j : Int) := by omega
          go_wp2_with (at_builtin; refine wpList_app_mark rfl (.tmp 46) (.tmp 47) rfl tpByteEI tpByteZ Tryz.underlying9 rfl ho.out rfl (by omega) (by omega) ?_; intro v5 w5 ho5 hg5 hat5)
          have hT5 := tape_grown hTr.out hg5.out (fun k e => by have := hrb.out k e; omega)
          have hA5 := aside_grown hAr.out hg5.out hglt hrb.out
          refine (end_any w5 g hT5 k).mono ?_
          rintro e w6 ⟨s6, rfl, hs6, hT6, hA6⟩
          have ho6 := Lib.hid (ownM_aside ho5 hA6 hglt)
          have hA7 := Lib.hid (hA5.trans hA6)
          have hg6 : w.heap.size ≤ w6.heap.size := hA7.out.2.1
          have hll : (l ++ f).length = l.length + f.length := List.length_append
          replace hT6 := Lib.hid hT6
          clear hA5 hA6 hT5 ho5 hg5 hat5
          have hrb6 := Lib.hid (fun k e => (ho6.out.lt k e).1)
          go_wp2_with (at_builtin; refine wpList_app_mark rfl (.tmp 48) (.tmp 51) rfl tpByteEI tpByteZ Tryz.underlying9 rfl ho6.out rfl (by omega) (by omega) ?_; intro v8 w8 ho8 hg8 hat8)
          have hT8 := Lib.hid (tape_grown hT6.out hg8.out (fun k e => by have := hrb6.out k e; omega))
          have hA8 := Lib.hid (aside_grown hA7.out hg8.out hglt hrb6.out)
          have hl2 : (l ++ f ++ s6).length = l.length + f.length + s6.length := by rw [List.length_append, hll]
          go_returns
          exact ⟨_, _, rfl, ho8, by omega, hT8.out, hA8.out⟩
    case' wd =>
      have hTl := hTx
      have hAl := hAx
      refine wpT_mk rfl ?_
      intro K hK
      go_simp
      refine (end_any w3 g hTl.out k).mono ?_
      rintro e wm ⟨en, rfl, hen, hTm, hAm⟩
      refine ⟨fun _ => True, trivial, hK _ _ _ ?_⟩
      clear hK K
      have ze := bs_size en
      have hAx := Lib.hid (hAl.out.trans hAm)
      have hTx := Lib.hid hTm
      clear hAm hTm
      obtain ⟨s, hcl, hs2⟩ := lit_short (heap_alloc_new wm (.cells #[.string ⟨#[]⟩, .string ⟨#[32]⟩, .string ⟨#[103, 111, 32]⟩] 9)) (n := 3) (by kernel_rfl) (j := r2) (by simpa using hr2)
      have zs := bs_size s
      have hgq : g < wm.heap.size := hTx.out.lt
      have hTl := Lib.hid (hTx.out.ext (ext_alloc wm (.cells #[.string ⟨#[]⟩, .string ⟨#[32]⟩, .string ⟨#[103, 111, 32]⟩] 9)))
      have hAl := Lib.hid (hAx.out.trans (Aside.of_ext (ext_alloc wm (.cells #[.string ⟨#[]⟩, .string ⟨#[32]⟩, .string ⟨#[103, 111, 32]⟩] 9)) hTx.out.lt))
      refine wpT_mk rfl ?_
      intro K hK
      go_simp
      refine ⟨(fun u : World => u.cell? ⟨wm.heap.size, r2, none⟩ = some (.string (bs s))), hcl, hK _ _ _ ?_⟩
      clear hK K
      generalize hql : wm.heap.size = ql at hcl ⊢
      generalize wm.alloc (.cells #[.string ⟨#[]⟩, .string ⟨#[32]⟩, .string ⟨#[103, 111, 32]⟩] 9) = wl at hcl hTl hAl ⊢
      have hqlt : ql < wl.heap.size := by
        rcases Nat.lt_or_ge ql wl.heap.size with h | h
        · exact h
        · rw [show wl.cell? ⟨ql, r2, none⟩ = none from by unfold World.cell?; rw [Array.getElem?_eq_none h]] at hcl; cases hcl
      have hTx := hTl
      have hAx := hAl
      have hc3 : ¬ 9223372036854775807 < f.length + s.length + info.length + en.length := by omega
      have hc1 : ¬ 9223372036854775807 < f.length + s.length := by omega
      have hc2 : ¬ 9223372036854775807 < f.length + s.length + info.length := by omega
      repeat (first | refine wpT_move rfl ?_ | (refine wpT_rd rfl ?_; intro K hK; go_simp; refine hK _ _ _ ?_; clear hK K))
      refine wpT_read (.string (bs s)) rfl rfl hcl (fun u hu => by go_simp) ?_
      repeat (first | refine wpT_move rfl ?_ | (refine wpT_rd rfl ?_; intro K hK; go_simp; refine hK _ _ _ ?_; clear hK K))
      have ztx : (bs f ++ bs s ++ bs info ++ bs en) = bs (f ++ s ++ info ++ en) := by simp only [bs_append]
      have zl : (f ++ s ++ info ++ en).length = f.length + s.length + info.length + en.length := by simp only [List.length_append]
      obtain ⟨l0, hl0e⟩ : ∃ l0, f ++ s ++ info ++ en = l0 := ⟨_, rfl⟩
      rw [hl0e] at ztx zl
      have hrb0 := run_bytes l0 wl
      have hnw := OwnM.new wl 5 l0 (by omega) w.heap.size hAx.out.2.1
      have hT0 := Lib.hid (hTx.out.ext (⟨rfl, rfl, rfl, by rw [Lib.bytesWorld_size]; omega, fun k hk => Lib.bytesWorld_at_old wl _ (bs l0) k hk⟩ : Below wl.heap.size wl (Lib.bytesWorld wl 5 (bs l0))))
      have hA0 := Lib.hid (hAx.out.trans (bytes_aside g 5 l0 hTx.out.lt))
      have ho0 := Lib.hid hnw
      have hlm : l0.length ≤ 200 := by omega
      replace zl := Lib.hid zl
      have hcn := (Lib.bytesWorld_old wl 5 (bs l0) ⟨ql, r2, none⟩ hqlt).trans hcl
      clear hnw hl0e
      refine wpT_mk rfl ?_
      intro K hK
      go_simp
      refine ⟨(fun u : World => u.cell? ⟨ql, r2, none⟩ = some (.string (bs s))), hcn, fun _ h => h, hK _ _ _ ?_⟩
      clear hK K
      repeat (first | refine wpT_move rfl ?_ | (refine wpT_rd rfl ?_; intro K hK; go_simp; refine hK _ _ _ ?_; clear hK K))
      refine wpT_fin ?_
      clear hcn hcl
      go_wp2_with fail
      go_loopw [10, 34] (fun v u wr => ∃ (j : Nat) (l : List UInt8), j ≤ n ∧ u = .int .i64 (j : Int) ∧ l.length ≤ 200 + j * 60 ∧ Hid (OwnM wr w.heap.size 5 v l) ∧ Hid (TapeAt wr g) ∧ Hid (Aside g w wr)) (fun _ u _ => n - (intOf u).toNat)
      case atStart => exact ⟨0, l0, by omega, rfl, by omega, ho0, hT0, hA0⟩
      case round =>
        obtain ⟨j, l, hj, rfl, hl, ho, hTr, hAr⟩ := hrel
        obtain ⟨vA, vc, rfl, hvc⟩ := ho.out.shape
        have hgr : w.heap.size ≤ wr.heap.size := hAr.out.2.1
        have hrb : ∀ k, (Value.slice vA l.length vc).ownBlock = some k → w.heap.size ≤ k := fun k e => (ho.out.lt k e).1
        replace hrb := Lib.hid hrb
        have hltr := hTr.out.lt
        rcases Nat.lt_or_ge j n with hlt | hge
        · obtain ⟨b, o, rfl, hbq, hcc⟩ := (hR.out.frame (fun b hq => aside_frame hAr.out hq) (fun b hq => hq) : RowE wr (fun b => b < w.heap.size ∧ b ≠ g) 1 A n (scells ls)).2 (by omega)
          have hj' : j < ls.length := by rw [hn9.out]; exact hlt
          have hcj := hcc j _ (show (scells ls)[j]? = some (.string (bs ls[j])) by simp [scells, List.getElem?_map, List.getElem?_eq_getElem hj'])
          have hsl := hs.out _ (List.getElem_mem hj')
          obtain ⟨x, hx⟩ : ∃ x, ls[j] = x := ⟨_, rfl⟩
          rw [hx] at hcj hsl
          clear hcc hx
          go_wp2_with (at_builtin; refine wpList_app_mark rfl (.tmp 38) (.tmp 39) rfl tpByteEI tpByteZ Tryz.underlying9 rfl ho.out rfl (by omega) (by omega) ?_; intro v5 w5 ho5 hg5 hat5)
          have hT5 := tape_grown hTr.out hg5.out (fun k e => by have := hrb.out k e; omega)
          have hA5 := aside_grown hAr.out hg5.out hglt hrb.out
          refine (end_any w5 g hT5 k).mono ?_
          rintro e w6 ⟨s6, rfl, hs6, hT6, hA6⟩
          have ho6 := Lib.hid (ownM_aside ho5 hA6 hglt)
          have hA7 := Lib.hid (hA5.trans hA6)
          have hg6 : w.heap.size ≤ w6.heap.size := hA7.out.2.1
          have hll : (l ++ x).length = l.length + x.length := List.length_append
          replace hT6 := Lib.hid hT6
          clear hA5 hA6 hT5 ho5 hg5 hat5 hcj
          have hrb6 := Lib.hid (fun k e => (ho6.out.lt k e).1)
          go_wp2_with (at_builtin; refine wpList_app_mark rfl (.tmp 40) (.tmp 43) rfl tpByteEI tpByteZ Tryz.underlying9 rfl ho6.out rfl (by omega) (by omega) ?_; intro v8 w8 ho8 hg8 hat8)
          have hT8 := Lib.hid (tape_grown hT6.out hg8.out (fun k e => by have := hrb6.out k e; omega))
          have hA8 := Lib.hid (aside_grown hA7.out hg8.out hglt hrb6.out)
          have hl2 : (l ++ x ++ s6).length = l.length + x.length + s6.length := by rw [List.length_append, hll]
          go_roundw
          case rel => exact ⟨j + 1, l ++ x ++ s6, by omega, by go_num, by omega, Lib.hid ho8, hT8, hA8⟩
          case measure => simp [intOf]; omega
        · obtain rfl : j = n := by omega
          have hjn : ¬ (j : Int) < (j : Int) := by omega
          go_wp2_with (at_builtin; refine wpList_app_mark rfl (.tmp 46) (.tmp 47) rfl tpByteEI tpByteZ Tryz.underlying9 rfl ho.out rfl (by omega) (by omega) ?_; intro v5 w5 ho5 hg5 hat5)
          have hT5 := tape_grown hTr.out hg5.out (fun k e => by have := hrb.out k e; omega)
          have hA5 := aside_grown hAr.out hg5.out hglt hrb.out
          refine (end_any w5 g hT5 k).mono ?_
          rintro e w6 ⟨s6, rfl, hs6, hT6, hA6⟩
          have ho6 := Lib.hid (ownM_aside ho5 hA6 hglt)
          have hA7 := Lib.hid (hA5.trans hA6)
          have hg6 : w.heap.size ≤ w6.heap.size := hA7.out.2.1
          have hll : (l ++ f).length = l.length + f.length := List.length_append
          replace hT6 := Lib.hid hT6
          clear hA5 hA6 hT5 ho5 hg5 hat5
          have hrb6 := Lib.hid (fun k e => (ho6.out.lt k e).1)
          go_wp2_with (at_builtin; refine wpList_app_mark rfl (.tmp 48) (.tmp 51) rfl tpByteEI tpByteZ Tryz.underlying9 rfl ho6.out rfl (by omega) (by omega) ?_; intro v8 w8 ho8 hg8 hat8)
          have hT8 := Lib.hid (tape_grown hT6.out hg8.out (fun k e => by have := hrb6.out k e; omega))
          have hA8 := Lib.hid (aside_grown hA7.out hg8.out hglt hrb6.out)
          have hl2 : (l ++ f ++ s6).length = l.length + f.length + s6.length := by rw [List.length_append, hll]
          go_returns
          exact ⟨_, _, rfl, ho8, by omega, hT8.out, hA8.out⟩
end Go.Proofs.YtmmgfoepfapnkaaGreatDoor
