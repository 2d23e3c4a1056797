/- AttrTells: infos are read, and written, as the document says. -/
import Derived.Test.YtfppfaliepkhgaaDoorAtSame
import Derived.Test.YtfppfaliepkhgaaDoorAtMade
import Derived.Test.YtfppfaliepkhgaaDoorAtKnown
import Derived.Test.YtfppfaliepkhgaaDoorAtWrite
import Derived.ProofKit
namespace Go.Proofs.YtfppfaliepkhgaaDoor
open Go.RowKit

attribute [local go_sem] canOp readsAs readUpon

set_option maxHeartbeats 4000000 in
set_option maxRecDepth 100000 in
theorem tells_any (l ks : List UInt8) (A : Option Addr) (c : Nat) (a : At.Attr) (w : World) (hR : Row w w.heap.size 1 A ks.length (bcells ks)) (hl : l.length ≤ 1048576) (hkm : ks.length ≤ 9223372036854775807) (ha : At.fits a) (hT : Tabs w) :
    Calls Tryd.prog 4 #[.string (bs l), .slice A ks.length c, .agg (acells a)] w fun e w' => e = .returned (.bool true) ∧ Below w.heap.size w w' := by
  have hml := md_all ks
  obtain ⟨T, hTT⟩ : ∃ T, md 24 ks = T := ⟨_, rfl⟩
  have hmd := fun w h => made_fn ks A c w h hkm
  rw [hTT] at hml hmd
  have a1 : bs T ++ bs l = bs (T ++ l) := bs_append T l
  have n0 := bs_size T
  have n1 := bs_size l
  have hno : ¬ 9223372036854775807 < T.length + l.length := by omega
  have l1 : (T ++ l).length ≤ 1000000000 := by rw [List.length_append]; omega
  have n2 := bs_size (T ++ l)
  rw [List.length_append] at n2
  obtain ⟨T1, hT1⟩ : ∃ T1, T ++ l = T1 := ⟨_, rfl⟩
  rw [hT1] at a1 l1 n2
  have s0 := fun w h => same_any l w (by omega) h
  have s1 := fun w h => same_any T w (by omega) h
  have s2 := fun w h => same_any T1 w l1 h
  have p1 := fun w h => pwrite_any a w ha h
  have p2 := fun w => rwrite_any a w ha
  obtain ⟨W, hW⟩ : ∃ W, At.write a = W := ⟨_, rfl⟩
  rw [hW] at p1 p2
  obtain ⟨an, nm, fl, sy, ap, nl⟩ := a
  clear hTT hT1 l1 ha hW
  replace hT := Lib.hid hT
  change ∀ w, Tabs w → Calls Tryd.prog 10 #[.agg #[.string (bs an), .string (bs nm), .string (bs fl), .string (bs sy), .bool ap, .bool nl]] w _ at p1
  change ∀ w, Calls Tryd.prog 11 #[.agg #[.string (bs an), .string (bs nm), .string (bs fl), .string (bs sy), .bool ap, .bool nl]] w _ at p2
  change Calls Tryd.prog 4 #[.string (bs l), .slice A ks.length c, .agg #[.string (bs an), .string (bs nm), .string (bs fl), .string (bs sy), .bool ap, .bool nl]] w _
  have hq0 := Lib.hid (heap_alloc_new w (.cells #[.string (bs an), .string (bs nm), .string (bs fl), .string (bs sy), .bool ap, .bool nl] 27))
  have hB0 := Lib.hid (ext_alloc w (.cells #[.string (bs an), .string (bs nm), .string (bs fl), .string (bs sy), .bool ap, .bool nl] 27))
  have hR0 := Lib.hid (hR.ext (ext_alloc w (.cells #[.string (bs an), .string (bs nm), .string (bs fl), .string (bs sy), .bool ap, .bool nl] 27)))
  obtain ⟨w1, hw1⟩ : ∃ w1, w.alloc (.cells #[.string (bs an), .string (bs nm), .string (bs fl), .string (bs sy), .bool ap, .bool nl] 27) = w1 := ⟨_, rfl⟩
  go_enter Tryd.func4, Tryd.ntmps4
  go_wp2_with fail
  rw [hw1] at hq0 hB0 hR0
  clear hw1 hR
  refine wp_region_can [(true, 0), (false, 1), (true, 2), (true, 3), (false, 4), (false, 5), (true, 6), (true, 7), (true, 8), (true, 10), (false, 9), (true, 11), (false, 12), (true, 13), (true, 14), (true, 15), (true, 17), (false, 16), (false, 18), (true, 19), (true, 20), (true, 21), (false, 22), (true, 23), (true, 24)] (Ext w1) (ext_drew w1) (by kernel_rfl) (by kernel_rfl) (by kernel_rfl) (fun _ _ d _ _ h => by cases d <;> exact h) ?_
  repeat (first | refine wpCan_move rfl ?_ | (refine wpCan_cons rfl ?_; intro K hK; go_simp; refine hK _ _ _ ?_; clear hK K))
  refine wpCan_cons rfl ?_
  intro K hK
  go_simp
  refine (s0 _ (tabs_ext hT.out (ext_trans hB0.out (ext_drew _)))).mono ?_
  rintro e w2 ⟨rfl, hb2⟩
  refine can_ext (ext_trans (ext_drew _) hb2) (hK _ _ _ ?_)
  clear hK K
  have hB2 := Lib.hid (ext_trans hB0.out (ext_trans (ext_drew _) hb2))
  have hR2 := Lib.hid (hR0.out.ext (ext_trans (ext_drew _) hb2))
  have hq2 := Lib.hid (keep hq0.out (ext_trans (ext_drew _) hb2)).1
  clear hb2
  repeat (first | refine wpCan_move rfl ?_ | (refine wpCan_cons rfl ?_; intro K hK; go_simp; refine hK _ _ _ ?_; clear hK K))
  refine wpCan_cons rfl ?_
  intro K hK
  go_simp
  refine (hmd _ hR2.out).mono ?_
  rintro e w3 ⟨rfl, hb3⟩
  refine can_ext hb3 (hK _ _ _ ?_)
  clear hK K
  have hB3 := Lib.hid (ext_trans hB2.out hb3)
  have hR3 := Lib.hid (hR2.out.ext hb3)
  have hq3 := Lib.hid (keep hq2.out hb3).1
  clear hb3
  refine wpCan_cons rfl ?_
  intro K hK
  go_simp
  refine (s1 _ (tabs_ext hT.out hB3.out)).mono ?_
  rintro e w4 ⟨rfl, hb4⟩
  refine can_ext hb4 (hK _ _ _ ?_)
  clear hK K
  have hB4 := Lib.hid (ext_trans hB3.out hb4)
  have hR4 := Lib.hid (hR3.out.ext hb4)
  have hq4 := Lib.hid (keep hq3.out hb4).1
  clear hb4
  repeat (first | refine wpCan_move rfl ?_ | (refine wpCan_cons rfl ?_; intro K hK; go_simp; refine hK _ _ _ ?_; clear hK K))
  refine wpCan_cons rfl ?_
  intro K hK
  go_simp
  refine (hmd _ hR4.out).mono ?_
  rintro e w5 ⟨rfl, hb5⟩
  refine can_ext hb5 (hK _ _ _ ?_)
  clear hK K
  have hB5 := Lib.hid (ext_trans hB4.out hb5)
  have hq5 := Lib.hid (keep hq4.out hb5).1
  clear hb5
  repeat (first | refine wpCan_move rfl ?_ | (refine wpCan_cons rfl ?_; intro K hK; go_simp; refine hK _ _ _ ?_; clear hK K))
  refine wpCan_cons rfl ?_
  intro K hK
  go_simp
  refine (s2 _ (tabs_ext hT.out hB5.out)).mono ?_
  rintro e w6 ⟨rfl, hb6⟩
  refine can_ext hb6 (hK _ _ _ ?_)
  clear hK K
  have hB6 := Lib.hid (ext_trans hB5.out hb6)
  have hq6 := Lib.hid (keep hq5.out hb6).1
  clear hb6
  repeat (first | refine wpCan_move rfl ?_ | (refine wpCan_cons rfl ?_; intro K hK; go_simp; refine hK _ _ _ ?_; clear hK K))
  refine wpCan_read (.agg #[.string (bs an), .string (bs nm), .string (bs fl), .string (bs sy), .bool ap, .bool nl]) rfl rfl (Ext.refl _) (fun u hu => by obtain ⟨y0, y1, y2, y3, y4, y5⟩ := six (keep hq6.out hu).1; go_simp) ?_
  refine wpCan_read (.agg #[.string (bs an), .string (bs nm), .string (bs fl), .string (bs sy), .bool ap, .bool nl]) rfl rfl (Ext.refl _) (fun u hu => by obtain ⟨y0, y1, y2, y3, y4, y5⟩ := six (keep hq6.out hu).1; go_simp) ?_
  refine wpCan_cons rfl ?_
  intro K hK
  go_simp
  refine (p1 _ (tabs_ext hT.out hB6.out)).mono ?_
  rintro e w7 ⟨rfl, hb7⟩
  refine can_ext hb7 (hK _ _ _ ?_)
  clear hK K
  have hB7 := Lib.hid (ext_trans hB6.out hb7)
  have hq7 := Lib.hid (keep hq6.out hb7).1
  clear hb7
  refine wpCan_cons rfl ?_
  intro K hK
  go_simp
  refine (p2 _).mono ?_
  rintro e w8 ⟨rfl, hb8⟩
  refine can_ext hb8 (hK _ _ _ ?_)
  clear hK K
  have hB8 := Lib.hid (ext_trans hB7.out hb8)
  have hq8 := Lib.hid (keep hq7.out hb8).1
  clear hb8
  repeat (first | refine wpCan_move rfl ?_ | (refine wpCan_cons rfl ?_; intro K hK; go_simp; refine hK _ _ _ ?_; clear hK K))
  refine wpCan_cons rfl ?_
  intro K hK
  go_simp
  refine (known_fn _ (tabs_ext hT.out hB8.out)).mono ?_
  rintro e w9 ⟨rfl, hb9⟩
  refine can_ext hb9 (hK _ _ _ ?_)
  clear hK K
  have hB9 := Lib.hid (ext_trans hB8.out hb9)
  have hq9 := Lib.hid (keep hq8.out hb9).1
  clear hb9
  repeat (first | refine wpCan_move rfl ?_ | (refine wpCan_cons rfl ?_; intro K hK; go_simp; refine hK _ _ _ ?_; clear hK K))
  refine wpCan_nil ?_
  go_wp2_with fail
  go_ret
  exact ⟨rfl, hB9.out⟩

theorem tells_small (l ks : List UInt8) (A : Option Addr) (c : Nat) (a : At.Attr) (w : World) (hR : Row w w.heap.size 1 A ks.length (bcells ks)) (_hc : ks.length ≤ c) (hT : Tabs w)
    (hk : l.length + ks.length + (a.lang.length + a.name.length + a.file.length + a.style.length) ≤ 1048576) :
    Calls Tryd.prog 4 #[.string (bs l), .slice A ks.length c, .agg (acells a)] w fun e w' => e = .returned (.bool true) ∧ Below w.heap.size w w' :=
  tells_any l ks A c a w hR (by omega) (by omega) ⟨by omega, by omega, by omega, by omega⟩ hT
end Go.Proofs.YtfppfaliepkhgaaDoor
