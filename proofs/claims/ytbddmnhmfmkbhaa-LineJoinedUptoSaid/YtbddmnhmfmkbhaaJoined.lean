/- LineJoined: rows that are joined one behind the other are joined as one. -/
import Derived.Test.YtbddmnhmfmkbhaaKnown
import Derived.Test.YtbddmnhmfmkbhaaCanon
import Derived.Test.YtbddmnhmfmkbhaaOpen
namespace Go.Proofs.Ytbddmnhmfmkbhaa
open Go.RowKit
attribute [local go_sem] canOp readsAs readUpon

set_option maxRecDepth 100000 in
set_option maxHeartbeats 1000000 in
theorem joined_any (l0 : List (List UInt8)) (A0 : Option Addr) (c0 : Nat) (l1 : List (List UInt8)) (A1 : Option Addr) (c1 : Nat) (l2 : List UInt8) (w : World)
    (h0 : Row w w.heap.size 1 A0 l0.length (scells l0)) (_hc0 : l0.length ≤ c0) (h1 : Row w w.heap.size 1 A1 l1.length (scells l1)) (_hc1 : l1.length ≤ c1)
    (hk : heft l0 + heft l1 + l2.length ≤ 1048576) :
    Calls Try.prog 7 #[.slice A0 l0.length c0, .slice A1 l1.length c1, .string (bs l2)] w fun e w' => e = .returned (.bool true) ∧ Below w.heap.size w w' := by
  have hR0 := Lib.hid h0
  have hR1 := Lib.hid h1
  have hh0 := heft_len l0
  have hh1 := heft_len l1
  clear h0 h1
  go_enter Try.func7, Try.ntmps7
  go_wp2
  refine wp_region_can [(true, 1), (true, 3), (true, 5), (true, 8), (true, 9), (true, 12), (true, 13), (false, 0), (false, 2), (false, 4), (false, 6), (true, 7), (false, 10), (true, 11), (false, 14), (true, 15), (true, 16), (true, 17), (true, 18), (false, 19), (true, 20), (true, 21)] (Below w.heap.size w) (Below.refl _ _).drew (by kernel_rfl) (by kernel_rfl) (by kernel_rfl) (fun _ _ d _ _ h => by cases d <;> exact h) ?_
  repeat (refine wpCan_move rfl ?_)
  refine wpCan_cons rfl ?_
  intro K hK
  go_simp
  refine can_same ((Below.refl _ _).alloc (Nat.le_refl _) _).drew (hK _ _ _ ?_)
  clear hK K
  have ho1 := ((World.ownsRow_made (e := 9) (base := w.heap.size) (size := 1) w #[] 0 (Nat.le_refl _) (Nat.zero_le _) rfl)).drew
  refine wpCan_app rfl rfl (.tmp 7) (.tmp 8) rfl textEI rfl ho1 rfl (((hR0.out.alloc (Nat.le_refl _) (.cells #[] 9))).drew) (scells_one _) (by omega) (by omega) (by simp) ?_
  intro v2 w2 ho2 _ hb2
  have hb2' := Lib.hid (((Below.refl w.heap.size w).alloc (Nat.le_refl _) (.cells #[] 9)).drew.trans hb2)
  refine can_same hb2'.out ?_
  refine wpCan_app rfl rfl (.tmp 9) (.tmp 10) rfl textEI rfl ho2 rfl (hR1.out.below hb2'.out) (scells_one _) (by omega) (by omega) hb2'.out.size ?_
  intro v3 w3 ho3 _ hb3
  have hb3' := Lib.hid (hb2'.out.trans hb3)
  have ho3' : w3.ownsRow w.heap.size 9 1 v3 (l0 ++ l1).length (scells (l0 ++ l1)) := by simpa [scells] using ho3
  obtain ⟨A3, c3, rfl, hc3⟩ := own_shape ho3'
  have hRx := Lib.hid (Row.own ho3')
  have hj0 := Lib.hid (Ln.join_small (ls := l0) (e := l2) (n := 1048576) (by omega) (by omega) (Nat.le_refl _))
  have hj1 := Lib.hid (Ln.join_small (ls := l1) (e := l2) (n := 1048576) (by omega) (by omega) (Nat.le_refl _))
  have hjx := Lib.hid (Ln.join_small (ls := l0 ++ l1) (e := l2) (n := 1048576) (by simp; omega) (by simp; omega) (Nat.le_refl _))
  have hj4 := join_any (l0 ++ l1) l2 A3 c3 w3 hRx.out (by simp; omega) hjx.out
  rw [show (l0 ++ l1).length = l0.length + l1.length from List.length_append] at hj4
  have hj4h := Lib.hid hj4
  clear hj4
  clear ho1 ho2 ho3 ho3' hb2 hb3
  refine can_same hb3'.out ?_
  refine wpCan_cons rfl ?_
  intro K hK
  go_simp
  refine hj4h.out.mono ?_
  rintro e w4 ⟨v4, rfl, ho4, hb4⟩
  have hb4' := Lib.hid (ext_trans hb3'.out hb4)
  obtain ⟨A4, c4, rfl, hc4⟩ := own_shape ho4
  have hcv4 : ∀ w', Ext w4 w' → _ := fun w' hw' => run_text (c := c4) ((Row.own ho4).ext hw') 22 5 9 Try.underlying22 Try.underlying5 Try.underlying9
  have hcv4' := hcv4 w4 (Ext.refl w4)
  have hcvh4 := Lib.hid hcv4
  refine can_next (fun _ hu => ext_trans hb4'.out hu) (hK _ _ _ ?_)
  clear hK K hb4 hcv4 ho4
  repeat (first | refine wpCan_move rfl ?_ | (refine wpCan_cons rfl ?_; intro K hK; go_simp; refine hK _ _ _ ?_; clear hK K))
  refine wpCan_cons rfl ?_
  intro K hK
  go_simp
  refine ⟨fun w' hw' => by rw [hcvh4.out w' hw']; exact ⟨rfl, rfl⟩, hK _ _ _ ?_⟩
  clear hK K hcv4' hcvh4
  repeat (first | refine wpCan_move rfl ?_ | (refine wpCan_cons rfl ?_; intro K hK; go_simp; refine hK _ _ _ ?_; clear hK K))
  refine wpCan_cons rfl ?_
  intro K hK
  go_simp
  refine (join_any l0 l2 _ c0 _ ((hR0.out.below hb4'.out).more hb4'.out.size) (by omega) hj0.out).mono ?_
  rintro e w5 ⟨v5, rfl, ho5, hb5⟩
  have hb5' := Lib.hid (ext_trans hb4'.out hb5)
  obtain ⟨A5, c5, rfl, hc5⟩ := own_shape ho5
  have hcv5 : ∀ w', Ext w5 w' → _ := fun w' hw' => run_text (c := c5) ((Row.own ho5).ext hw') 22 5 9 Try.underlying22 Try.underlying5 Try.underlying9
  have hcv5' := hcv5 w5 (Ext.refl w5)
  have hcvh5 := Lib.hid hcv5
  refine can_ext hb5 (hK _ _ _ ?_)
  clear hK K hb5 hcv5 ho5
  repeat (first | refine wpCan_move rfl ?_ | (refine wpCan_cons rfl ?_; intro K hK; go_simp; refine hK _ _ _ ?_; clear hK K))
  refine wpCan_cons rfl ?_
  intro K hK
  go_simp
  refine ⟨fun w' hw' => by rw [hcvh5.out w' hw']; exact ⟨rfl, rfl⟩, hK _ _ _ ?_⟩
  clear hK K hcv5' hcvh5
  repeat (first | refine wpCan_move rfl ?_ | (refine wpCan_cons rfl ?_; intro K hK; go_simp; refine hK _ _ _ ?_; clear hK K))
  refine wpCan_cons rfl ?_
  intro K hK
  go_simp
  refine (join_any l1 l2 _ c1 _ ((hR1.out.below hb5'.out).more hb5'.out.size) (by omega) hj1.out).mono ?_
  rintro e w6 ⟨v6, rfl, ho6, hb6⟩
  have hb6' := Lib.hid (ext_trans hb5'.out hb6)
  obtain ⟨A6, c6, rfl, hc6⟩ := own_shape ho6
  have hcv6 : ∀ w', Ext w6 w' → _ := fun w' hw' => run_text (c := c6) ((Row.own ho6).ext hw') 22 5 9 Try.underlying22 Try.underlying5 Try.underlying9
  have hcv6' := hcv6 w6 (Ext.refl w6)
  have hcvh6 := Lib.hid hcv6
  refine can_ext hb6 (hK _ _ _ ?_)
  clear hK K hb6 hcv6 ho6
  repeat (first | refine wpCan_move rfl ?_ | (refine wpCan_cons rfl ?_; intro K hK; go_simp; refine hK _ _ _ ?_; clear hK K))
  refine wpCan_cons rfl ?_
  intro K hK
  go_simp
  refine ⟨fun w' hw' => by rw [hcvh6.out w' hw']; exact ⟨rfl, rfl⟩, hK _ _ _ ?_⟩
  clear hK K hcv6' hcvh6
  repeat (first | refine wpCan_move rfl ?_ | (refine wpCan_cons rfl ?_; intro K hK; go_simp; refine hK _ _ _ ?_; clear hK K))
  refine wpCan_cons rfl ?_
  intro K hK
  go_simp
  have hif : ¬ 9223372036854775807 < (bs (Ln.join l0 l2)).size + (bs (Ln.join l1 l2)).size := by
    have h1 := hj0.out
    have h2 := hj1.out
    rw [bs_size, bs_size]; omega
  simp only [if_neg hif, bs_append, ← Ln.join_append]
  refine ⟨_, ⟨trivial, rfl⟩, fun w' _ => ⟨trivial, rfl⟩, hK _ _ _ ?_⟩
  clear hK K hif
  repeat (first | refine wpCan_move rfl ?_ | (refine wpCan_cons rfl ?_; intro K hK; go_simp; refine hK _ _ _ ?_; clear hK K))
  refine wpCan_cons rfl ?_
  intro K hK
  go_simp
  refine (known_any _).mono ?_
  rintro e w7 ⟨rfl, hb7⟩
  have hb7' := Lib.hid (ext_trans hb6'.out hb7)
  refine can_ext hb7 (hK _ _ _ ?_)
  clear hK K hb7
  repeat (first | refine wpCan_move rfl ?_ | (refine wpCan_cons rfl ?_; intro K hK; go_simp; refine hK _ _ _ ?_; clear hK K))
  refine wpCan_nil ?_
  go_wp2
  go_returns
  exact ⟨rfl, hb7'.out⟩
end Go.Proofs.Ytbddmnhmfmkbhaa
