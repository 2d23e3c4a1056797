/- Package attr: an info, composed and written. -/
import Derived.Test.YtfppfaliepkhgaaDoorAtCompose
import Derived.Test.YtfppfaliepkhgaaDoorAtReadP
namespace Go.Proofs.YtfppfaliepkhgaaDoor
open Go.RowKit

set_option maxHeartbeats 8000000 in
set_option maxRecDepth 100000 in
theorem compose_any (a : At.Attr) (w : World) (ha : At.fits a) :
    Calls Tryd.prog 20 #[.agg (acells a)] w fun e w' => e = .returned (.string (bs (At.compose a))) ∧ Below w.heap.size w w' := by
  obtain ⟨an, nm, fl, sy, ap, nl⟩ := a
  obtain ⟨hf1, hf2, hf3, hf4⟩ := ha
  simp only at hf1 hf2 hf3 hf4
  have hW0 : ((w.alloc (.cells #[.string (bs an), .string (bs nm), .string (bs fl), .string (bs sy), .bool ap, .bool nl] 27)).alloc (.cells #[.pointer none, .slice none 0 0] 71)).heap[w.heap.size]? = some (.cells #[.string (bs an), .string (bs nm), .string (bs fl), .string (bs sy), .bool ap, .bool nl] 27) := blk_one w _ _
  have hI0 : IsB (w.heap.size + 1) (w.heap.size + 1) (bcells []) ((w.alloc (.cells #[.string (bs an), .string (bs nm), .string (bs fl), .string (bs sy), .bool ap, .bool nl] 27)).alloc (.cells #[.pointer none, .slice none 0 0] 71)) := by
    have := fresh_bld (w.alloc (.cells #[.string (bs an), .string (bs nm), .string (bs fl), .string (bs sy), .bool ap, .bool nl] 27))
    rwa [show (w.alloc (.cells #[.string (bs an), .string (bs nm), .string (bs fl), .string (bs sy), .bool ap, .bool nl] 27)).heap.size = w.heap.size + 1 from by simp] at this
  have l1 := At.add_len [] an
  have l2 := At.addPair_len (At.add [] an) At.wName nm
  have l3 := At.addPair_len (At.addPair (At.add [] an) At.wName nm) At.wFile fl
  have l4 := At.addPair_len (At.addPair (At.addPair (At.add [] an) At.wName nm) At.wFile fl) At.wComment sy
  have n1 : At.wName.length = 4 := rfl
  have n2 : At.wFile.length = 4 := rfl
  have n3 : At.wComment.length = 7 := rfl
  simp only [List.length_nil] at l1
  have hfin : Hid (At.compose ⟨an, nm, fl, sy, ap, nl⟩ = At.flags (At.addPair (At.addPair (At.addPair (At.add [] an) At.wName nm) At.wFile fl) At.wComment sy) ⟨an, nm, fl, sy, ap, nl⟩) := Lib.hid rfl
  obtain ⟨T1, hT1⟩ : ∃ T, At.add [] an = T := ⟨_, rfl⟩
  rw [hT1] at l1 l2 l3 l4 hfin
  obtain ⟨T2, hT2⟩ : ∃ T, At.addPair T1 At.wName nm = T := ⟨_, rfl⟩
  rw [hT2] at l2 l3 l4 hfin
  obtain ⟨T3, hT3⟩ : ∃ T, At.addPair T2 At.wFile fl = T := ⟨_, rfl⟩
  rw [hT3] at l3 l4 hfin
  obtain ⟨T4, hT4⟩ : ∃ T, At.addPair T3 At.wComment sy = T := ⟨_, rfl⟩
  rw [hT4] at l4 hfin
  have hz0 : w.heap.size + 1 ≤ ((w.alloc (.cells #[.string (bs an), .string (bs nm), .string (bs fl), .string (bs sy), .bool ap, .bool nl] 27)).alloc (.cells #[.pointer none, .slice none 0 0] 71)).heap.size := by simp
  have c1 := add_any (w.heap.size + 1) (w.heap.size + 1) [] an _ hI0 hz0 (by simp) (by omega)
  rw [hT1] at c1
  have hB0 := Lib.hid (ext_trans (ext_alloc w (.cells #[.string (bs an), .string (bs nm), .string (bs fl), .string (bs sy), .bool ap, .bool nl] 27)) (ext_alloc _ (.cells #[.pointer none, .slice none 0 0] 71)))
  replace hT1 := Lib.hid hT1
  replace hT2 := Lib.hid hT2
  replace hT3 := Lib.hid hT3
  replace hT4 := Lib.hid hT4
  change Calls Tryd.prog 20 #[.agg #[.string (bs an), .string (bs nm), .string (bs fl), .string (bs sy), .bool ap, .bool nl]] w _
  go_enter Tryd.func20, Tryd.ntmps20
  go_wp2_with fail
  refine c1.mono ?_
  rintro e w1 ⟨⟨v1, rfl⟩, h1, hb1⟩
  have f1 := (hb1.block _ (by simp)).trans hW0
  have s1 := Nat.le_trans hz0 hb1.size
  have hB1 := Lib.hid (hB0.out.trans (hb1.mono (Nat.le_succ _)))
  obtain ⟨y0, y1, y2, y3, y4, y5⟩ := six f1
  have c2 := addPair_any (w.heap.size + 1) (w.heap.size + 1) T1 At.wName nm w1 h1 s1 (by omega) (by decide) (by omega)
  rw [hT2.out] at c2
  change Calls Tryd.prog 42 #[.pointer (some ⟨w.heap.size + 1, 0, none⟩), .string ⟨#[110, 97, 109, 101]⟩, .string (bs nm)] w1 _ at c2
  replace f1 := Lib.hid f1
  clear hb1 c1 hW0
  go_wp2_with fail
  refine c2.mono ?_
  rintro e w2 ⟨⟨v2, rfl⟩, h2, hb2⟩
  clear y0 y1 y2 y3 y4 y5 c2 h1
  have f2 := (hb2.block _ (by omega)).trans f1.out
  have s2 := Nat.le_trans s1 hb2.size
  have hB2 := Lib.hid (hB1.out.trans (hb2.mono (Nat.le_succ _)))
  obtain ⟨y0, y1, y2, y3, y4, y5⟩ := six f2
  have c3 := addPair_any (w.heap.size + 1) (w.heap.size + 1) T2 At.wFile fl w2 h2 s2 (by omega) (by decide) (by omega)
  rw [hT3.out] at c3
  change Calls Tryd.prog 42 #[.pointer (some ⟨w.heap.size + 1, 0, none⟩), .string ⟨#[102, 105, 108, 101]⟩, .string (bs fl)] w2 _ at c3
  replace f2 := Lib.hid f2
  clear hb2 f1 hB1
  go_wp2_with fail
  refine c3.mono ?_
  rintro e w3 ⟨⟨v3, rfl⟩, h3, hb3⟩
  clear y0 y1 y2 y3 y4 y5 c3 h2
  have f3 := (hb3.block _ (by omega)).trans f2.out
  have s3 := Nat.le_trans s2 hb3.size
  have hB3 := Lib.hid (hB2.out.trans (hb3.mono (Nat.le_succ _)))
  obtain ⟨y0, y1, y2, y3, y4, y5⟩ := six f3
  have c4 := addPair_any (w.heap.size + 1) (w.heap.size + 1) T3 At.wComment sy w3 h3 s3 (by omega) (by decide) (by omega)
  rw [hT4.out] at c4
  change Calls Tryd.prog 42 #[.pointer (some ⟨w.heap.size + 1, 0, none⟩), .string ⟨#[99, 111, 109, 109, 101, 110, 116]⟩, .string (bs sy)] w3 _ at c4
  replace f3 := Lib.hid f3
  clear hb3 f2 hB2
  go_wp2_with fail
  refine c4.mono ?_
  rintro e w4 ⟨⟨v4, rfl⟩, h4, hb4⟩
  clear y0 y1 y2 y3 y4 y5 c4 h3
  have f4 := (hb4.block _ (by omega)).trans f3.out
  have s4 := Nat.le_trans s3 hb4.size
  have hB4 := Lib.hid (hB3.out.trans (hb4.mono (Nat.le_succ _)))
  obtain ⟨y0, y1, y2, y3, y4, y5⟩ := six f4
  replace f4 := Lib.hid f4
  clear hb4 f3 hB3
  have l5 := At.add_len T4 At.wAppend
  have n4 : At.wAppend.length = 6 := rfl
  have cA := add_any (w.heap.size + 1) (w.heap.size + 1) T4 At.wAppend w4 h4 s4 (by omega) (by decide)
  change Calls Tryd.prog 41 #[.pointer (some ⟨w.heap.size + 1, 0, none⟩), .string ⟨#[97, 112, 112, 101, 110, 100]⟩] w4 _ at cA
  try simp only at y0 y1 y2 y3 y4 y5
  have hstep : ∀ (T : List UInt8) (wk : World), IsB (w.heap.size + 1) (w.heap.size + 1) (bcells T) wk → w.heap.size + 1 ≤ wk.heap.size → T.length ≤ 10000000000 →
      Calls Tryd.prog 41 #[.pointer (some ⟨w.heap.size + 1, 0, none⟩), .string ⟨#[110, 111, 108, 105, 110, 101]⟩] wk fun e w' => (∃ v, e = .returned v) ∧ BldOut (w.heap.size + 1) (w.heap.size + 1) (At.add T At.wNoline) wk w' :=
    fun T wk h s hl => add_any (w.heap.size + 1) (w.heap.size + 1) T At.wNoline wk h s hl (by decide)
  cases ap with
  | false =>
    cases nl with
    | false =>
      have hff : Hid (At.compose ⟨an, nm, fl, sy, false, false⟩ = T4) := Lib.hid (by rw [hfin.out]; simp [At.flags, At.add_nil])
      clear cA hstep
      go_wp2_with fail
      refine (bld_string _ _ T4 _ h4 s4).mono ?_
      rintro e w7 ⟨rfl, hb7⟩
      go_wp2_with fail
      go_ret
      exact ⟨by rw [hff.out]; rfl, hB4.out.trans (hb7.mono (Nat.le_succ _))⟩
    | true =>
      have hff : Hid (At.compose ⟨an, nm, fl, sy, false, true⟩ = At.add T4 At.wNoline) := Lib.hid (by rw [hfin.out]; simp [At.flags, At.add_nil])
      have cN := hstep T4 w4 h4 s4 (by omega)
      clear cA hstep
      go_wp2_with fail
      refine cN.mono ?_
      rintro e w6 ⟨⟨v6, rfl⟩, h6, hb6⟩
      have s6 := Nat.le_trans s4 hb6.size
      go_wp2_with fail
      refine (bld_string _ _ _ _ h6 s6).mono ?_
      rintro e w7 ⟨rfl, hb7⟩
      go_wp2_with fail
      go_ret
      exact ⟨by rw [hff.out]; rfl, hB4.out.trans ((hb6.trans hb7).mono (Nat.le_succ _))⟩
  | true =>
    cases nl with
    | false =>
      have hff : Hid (At.compose ⟨an, nm, fl, sy, true, false⟩ = At.add T4 At.wAppend) := Lib.hid (by rw [hfin.out]; simp [At.flags, At.add_nil])
      clear hstep
      go_wp2_with fail
      refine cA.mono ?_
      rintro e w5 ⟨⟨v5, rfl⟩, h5, hb5⟩
      have s5 := Nat.le_trans s4 hb5.size
      obtain ⟨y0, y1, y2, y3, y4, y5⟩ := six ((hb5.block _ (by omega)).trans f4.out)
      try simp only at y0 y1 y2 y3 y4 y5
      replace hb5 := Lib.hid hb5
      go_wp2_with fail
      refine (bld_string _ _ _ _ h5 s5).mono ?_
      rintro e w7 ⟨rfl, hb7⟩
      go_wp2_with fail
      go_ret
      exact ⟨by rw [hff.out]; rfl, hB4.out.trans ((hb5.out.trans hb7).mono (Nat.le_succ _))⟩
    | true =>
      have hff : Hid (At.compose ⟨an, nm, fl, sy, true, true⟩ = At.add (At.add T4 At.wAppend) At.wNoline) := Lib.hid (by rw [hfin.out]; simp [At.flags])
      go_wp2_with fail
      refine cA.mono ?_
      rintro e w5 ⟨⟨v5, rfl⟩, h5, hb5⟩
      have s5 := Nat.le_trans s4 hb5.size
      obtain ⟨y0, y1, y2, y3, y4, y5⟩ := six ((hb5.block _ (by omega)).trans f4.out)
      try simp only at y0 y1 y2 y3 y4 y5
      have cN := hstep _ w5 h5 s5 (by omega)
      replace hb5 := Lib.hid hb5
      clear hstep
      go_wp2_with fail
      refine cN.mono ?_
      rintro e w6 ⟨⟨v6, rfl⟩, h6, hb6⟩
      have s6 := Nat.le_trans s5 hb6.size
      go_wp2_with fail
      refine (bld_string _ _ _ _ h6 s6).mono ?_
      rintro e w7 ⟨rfl, hb7⟩
      go_wp2_with fail
      go_ret
      exact ⟨by rw [hff.out]; rfl, hB4.out.trans ((hb5.out.trans (hb6.trans hb7)).mono (Nat.le_succ _))⟩

/-- what is written: the info, if it says just that -/
def At.same (a b : At.Attr) : Bool := decide (a.lang = b.lang) && decide (a.name = b.name) && decide (a.file = b.file) && decide (a.style = b.style) && (a.append == b.append) && (a.noline == b.noline)
theorem At.same_iff {a b : At.Attr} : At.same a b = true ↔ a = b := by
  obtain ⟨a1, a2, a3, a4, a5, a6⟩ := a
  obtain ⟨b1, b2, b3, b4, b5, b6⟩ := b
  simp [At.same, and_assoc]
def At.write (a : At.Attr) : List UInt8 := match At.read (At.compose a) with
  | some b => if At.same b a = true then At.compose a else []
  | none => []

section
variable {a1 a2 a3 a4 b1 b2 b3 b4 : List UInt8} {a5 a6 b5 b6 : Bool}
theorem bs_list_iff {a b : List UInt8} : (bs a).toList = (bs b).toList ↔ a = b := by rw [bs_toList, bs_toList]
theorem same_yes (h1 : (bs a1).toList = (bs b1).toList) (h2 : (bs a2).toList = (bs b2).toList) (h3 : (bs a3).toList = (bs b3).toList) (h4 : (bs a4).toList = (bs b4).toList) (h5 : a5 = b5) (h6 : a6 = b6) :
    At.same ⟨a1, a2, a3, a4, a5, a6⟩ ⟨b1, b2, b3, b4, b5, b6⟩ = true := by
  rw [bs_list_iff] at h1 h2 h3 h4
  subst h1 h2 h3 h4 h5 h6
  exact At.same_iff.2 rfl
theorem same_no1 (h : ¬ (bs a1).toList = (bs b1).toList) : ¬ At.same ⟨a1, a2, a3, a4, a5, a6⟩ ⟨b1, b2, b3, b4, b5, b6⟩ = true := by
  rw [bs_list_iff] at h; rw [At.same_iff]; intro e; cases e; exact h rfl
theorem same_no2 (h : ¬ (bs a2).toList = (bs b2).toList) : ¬ At.same ⟨a1, a2, a3, a4, a5, a6⟩ ⟨b1, b2, b3, b4, b5, b6⟩ = true := by
  rw [bs_list_iff] at h; rw [At.same_iff]; intro e; cases e; exact h rfl
theorem same_no3 (h : ¬ (bs a3).toList = (bs b3).toList) : ¬ At.same ⟨a1, a2, a3, a4, a5, a6⟩ ⟨b1, b2, b3, b4, b5, b6⟩ = true := by
  rw [bs_list_iff] at h; rw [At.same_iff]; intro e; cases e; exact h rfl
theorem same_no4 (h : ¬ (bs a4).toList = (bs b4).toList) : ¬ At.same ⟨a1, a2, a3, a4, a5, a6⟩ ⟨b1, b2, b3, b4, b5, b6⟩ = true := by
  rw [bs_list_iff] at h; rw [At.same_iff]; intro e; cases e; exact h rfl
theorem same_no5 (h : ¬ a5 = b5) : ¬ At.same ⟨a1, a2, a3, a4, a5, a6⟩ ⟨b1, b2, b3, b4, b5, b6⟩ = true := by
  rw [At.same_iff]; intro e; cases e; exact h rfl
theorem same_no6 (h : ¬ a6 = b6) : ¬ At.same ⟨a1, a2, a3, a4, a5, a6⟩ ⟨b1, b2, b3, b4, b5, b6⟩ = true := by
  rw [At.same_iff]; intro e; cases e; exact h rfl
end

set_option maxHeartbeats 8000000 in
set_option maxRecDepth 100000 in
theorem pwrite_any (a : At.Attr) (w : World) (ha : At.fits a) (hT : Tabs w) :
    Calls Tryd.prog 10 #[.agg (acells a)] w fun e w' => e = .returned (.string (bs (At.write a))) ∧ Below w.heap.size w w' := by
  have hco := fun w => compose_any a w ha
  have hcl := At.compose_len ha
  have hwr : At.write a = (match At.read (At.compose a) with | some b => if At.same b a = true then At.compose a else [] | none => []) := rfl
  obtain ⟨I, hI⟩ : ∃ I, At.compose a = I := ⟨_, rfl⟩
  rw [hI] at hco hcl hwr
  obtain ⟨an, nm, fl, sy, ap, nl⟩ := a
  clear hI ha
  have hrd := fun w h => pread_any I w hcl h
  cases hr : At.read I with
  | none =>
    have hfin : Hid (At.write ⟨an, nm, fl, sy, ap, nl⟩ = []) := Lib.hid (by rw [hwr, hr])
    rw [hr] at hrd
    simp only [attrv] at hrd
    replace hT := Lib.hid hT
    clear hwr hr
    change ∀ w, Tabs w → Calls Tryd.prog 12 #[.string (bs I)] w (fun e w' => e = .returned (.tuple #[.agg #[.string ⟨#[]⟩, .string ⟨#[]⟩, .string ⟨#[]⟩, .string ⟨#[]⟩, .bool false, .bool false], .bool false]) ∧ Below w.heap.size w w') at hrd
    change ∀ w, Calls Tryd.prog 20 #[.agg #[.string (bs an), .string (bs nm), .string (bs fl), .string (bs sy), .bool ap, .bool nl]] w _ at hco
    change Calls Tryd.prog 10 #[.agg #[.string (bs an), .string (bs nm), .string (bs fl), .string (bs sy), .bool ap, .bool nl]] w _
    go_enter Tryd.func10, Tryd.ntmps10
    go_wp2_with fail
    refine (hco _).mono ?_
    rintro e w1 ⟨rfl, hb1⟩
    have hB1 := Lib.hid (ext_trans (ext_alloc _ _) hb1)
    have hT1 := tabs_ext hT.out hB1.out
    go_wp2_with fail
    refine (hrd _ hT1).mono ?_
    rintro e w2 ⟨rfl, hb2⟩
    go_wp2_with fail
    go_ret
    exact ⟨by rw [hfin.out]; rfl, (ext_trans hB1.out hb2).alloc (by have := hB1.out.size; have := hb2.size; omega) _⟩
  | some b =>
    obtain ⟨bn, bm, bf, by', bp, bl⟩ := b
    rw [hr] at hrd
    simp only [attrv] at hrd
    replace hT := Lib.hid hT
    have hfin : Hid (At.write ⟨an, nm, fl, sy, ap, nl⟩ = if At.same ⟨bn, bm, bf, by', bp, bl⟩ ⟨an, nm, fl, sy, ap, nl⟩ = true then I else []) := Lib.hid (by rw [hwr, hr])
    clear hwr hr
    change ∀ w, Calls Tryd.prog 20 #[.agg #[.string (bs an), .string (bs nm), .string (bs fl), .string (bs sy), .bool ap, .bool nl]] w _ at hco
    change Calls Tryd.prog 10 #[.agg #[.string (bs an), .string (bs nm), .string (bs fl), .string (bs sy), .bool ap, .bool nl]] w _
    change ∀ w, Tabs w → Calls Tryd.prog 12 #[.string (bs I)] w (fun e w' => e = .returned (.tuple #[.agg #[.string (bs bn), .string (bs bm), .string (bs bf), .string (bs by'), .bool bp, .bool bl], .bool true]) ∧ Below w.heap.size w w') at hrd
    go_enter Tryd.func10, Tryd.ntmps10
    go_wp2_with fail
    refine (hco _).mono ?_
    rintro e w1 ⟨rfl, hb1⟩
    have hq1 := (keep (heap_alloc_new w (.cells #[.string (bs an), .string (bs nm), .string (bs fl), .string (bs sy), .bool ap, .bool nl] 27)) hb1).1
    have hB1 := Lib.hid (ext_trans (ext_alloc _ _) hb1)
    have hT1 := tabs_ext hT.out hB1.out
    go_wp2_with fail
    refine (hrd _ hT1).mono ?_
    rintro e w2 ⟨rfl, hb2⟩
    have hq2 := (keep hq1 hb2).1
    obtain ⟨y0, y1, y2, y3, y4, y5⟩ := six hq2
    have hB2 := Lib.hid (ext_trans hB1.out hb2)
    have hlt2 := (keep hq1 hb2).2
    clear hq1 hq2 hb1 hb2 hT1
    go_wp2_with fail
    all_goals
      go_ret
      refine ⟨?_, hB2.out.alloc (by omega) _⟩
      first
        | (rw [hfin.out, if_pos (same_yes (by assumption) (by assumption) (by assumption) (by assumption) (by assumption) (by assumption))]; rfl)
        | (rw [hfin.out, if_neg (same_no1 (by assumption))]; rfl)
        | (rw [hfin.out, if_neg (same_no2 (by assumption))]; rfl)
        | (rw [hfin.out, if_neg (same_no3 (by assumption))]; rfl)
        | (rw [hfin.out, if_neg (same_no4 (by assumption))]; rfl)
        | (rw [hfin.out, if_neg (same_no5 (by assumption))]; rfl)
        | (rw [hfin.out, if_neg (same_no6 (by assumption))]; rfl)
end Go.Proofs.YtfppfaliepkhgaaDoor
