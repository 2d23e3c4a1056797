/- LineTells: bytes are parted into lines, and rows joined, as the document says. -/
import Derived.Test.YtbddmnhmfmkbhaaKnown
import Derived.Test.YtbddmnhmfmkbhaaCanon
import Derived.Test.YtbddmnhmfmkbhaaOpen
namespace Go.Proofs.Ytbddmnhmfmkbhaa
open Go.RowKit
attribute [local go_sem] canOp readsAs readUpon

set_option maxRecDepth 100000 in
set_option maxHeartbeats 1000000 in
theorem tells_any (l0 : List UInt8) (A0 : Option Addr) (c0 : Nat) (l1 : List UInt8) (A1 : Option Addr) (c1 : Nat) (l2 : List (List UInt8)) (A2 : Option Addr) (c2 : Nat) (l3 : List UInt8) (w : World)
    (h0 : Row w w.heap.size 1 A0 l0.length (bcells l0)) (hc0 : l0.length ≤ c0) (h1 : Row w w.heap.size 1 A1 l1.length (bcells l1)) (_hc1 : l1.length ≤ c1)
    (h2 : Row w w.heap.size 1 A2 l2.length (scells l2)) (_hc2 : l2.length ≤ c2) (hk : l0.length + l1.length + heft l2 + l3.length ≤ 1048576) :
    Calls Try.prog 4 #[.slice A0 l0.length c0, .slice A1 l1.length c1, .slice A2 l2.length c2, .string (bs l3)] w fun e w' => e = .returned (.bool true) ∧ Below w.heap.size w w' := by
  have hR0 := Lib.hid h0
  have hR1 := Lib.hid h1
  have hR2 := Lib.hid h2
  clear h0 h1 h2
  go_enter Try.func4, Try.ntmps4
  go_wp2_with fail
  go_loopw [9, 10] (fun v i wr => ∃ (k : Nat) (l : List UInt8), k ≤ l1.length ∧ k ≤ 60 ∧ l.length = k ∧ i = .int .i64 k ∧ wr.ownsRow w.heap.size 5 1 v k (bcells l) ∧ Below w.heap.size w wr)
    (fun _ i _ => l1.length - (intOf i).toNat)
  case atStart => exact ⟨0, [], Nat.zero_le _, Nat.zero_le _, rfl, rfl, World.ownsRow_nil _ _ _ _, Below.refl _ _⟩
  case round =>
    obtain ⟨k, l, hk1, hk2, hlk, rfl, hown, hb⟩ := hrel
    have hz := hb.size
    by_cases hgo : k < l1.length ∧ k < 60
    · obtain ⟨hg1, hg2⟩ := hgo
      obtain ⟨b, o, rfl, hbb, hc⟩ := byte_cell hR1.out (by omega)
      have hx : wr.cell? ⟨b, o + k, none⟩ = some (.int .u8 (l1[k].toNat : Int)) := (hb.cell hbb).trans (hc k hg1)
      clear hc
      obtain ⟨x, hpk⟩ := run_pick (P := Try.prog) 9 Try.underlying9 ⟨#[97, 98, 10, 13]⟩ l1[k] 2 3 rfl (by omega) (by decide)
      go_wp2_with (at_builtin; refine wpList_app_new rfl (.tmp 21) (.tmp 28) rfl byteEI rfl hown rfl rfl rfl (by simp; rfl) (by omega) (by omega) hz ?_; intro v2 w2 hown2 hg2 hb2)
      go_roundw
      case rel => exact ⟨k + 1, l ++ [x], by omega, by omega, by simp [hlk], by go_num, by simpa [bcells, bv] using hown2, hb.trans hb2⟩
      case measure => simp [intOf]; omega
    · obtain ⟨Ab, cb, rfl, hcb⟩ := own_shape hown
      subst hlk
      have hRb := Lib.hid (Row.own hown)
      clear hown
      have hh := heft_len l2
      have hj1 := Lib.hid (Ln.join_small (ls := l2) (e := l3) (n := 1048576) (by omega) (by omega) (Nat.le_refl _))
      have hll : l.length ≤ 60 := hk2
      have hR0' := Lib.hid ((hR0.out.below hb).more hz)
      have hR2' := Lib.hid ((hR2.out.below hb).more hz)
      have hstop : l1.length ≤ l.length ∨ l.length < l1.length ∧ 60 ≤ l.length := by omega
      clear hgo hk1 hk2 hR0 hR1 hR2
      rcases hstop with hst | ⟨hst, hst2⟩
      all_goals
        go_wp2
        refine wp_region_can [(true, 0), (false, 1), (true, 2), (true, 3), (false, 4), (true, 5), (true, 6), (true, 7), (true, 8), (true, 11), (true, 12), (false, 9), (true, 10), (false, 13), (true, 14), (true, 15), (true, 16), (true, 17), (false, 18), (true, 19), (true, 20)] (by kernel_rfl) (by kernel_rfl) (by kernel_rfl) (fun _ _ d _ _ h => by cases d <;> exact h) ?_
        repeat (refine wpCan_cons rfl ?_; intro K hK; go_simp; refine hK _ _ ?_; clear hK K)
        refine wpCan_cons rfl ?_
        intro K hK
        go_simp
        refine (same_any l0 _ c0 _ hR0'.out.dr hc0 (by omega)).mono ?_
        rintro e w1 ⟨rfl, hb1⟩
        have hb1' := Lib.hid (ext_trans (ext_drew _) hb1)
        refine ⟨hb1, hK _ _ ?_⟩
        clear hK K hb1
        repeat (refine wpCan_cons rfl ?_; intro K hK; go_simp; refine hK _ _ ?_; clear hK K)
        refine wpCan_cons rfl ?_
        intro K hK
        go_simp
        refine (same_any l _ cb _ (hRb.out.ext hb1'.out) hcb (by omega)).mono ?_
        rintro e w2 ⟨rfl, hb2⟩
        have hb2' := Lib.hid (ext_trans hb1'.out hb2)
        refine ⟨hb2, hK _ _ ?_⟩
        clear hK K hb2
        repeat (refine wpCan_cons rfl ?_; intro K hK; go_simp; refine hK _ _ ?_; clear hK K)
        refine wpCan_cons rfl ?_
        intro K hK
        go_simp
        refine (join_any l2 l3 _ c2 _ (hR2'.out.ext hb2'.out) (by omega) hj1.out).mono ?_
        rintro e w3 ⟨v3, rfl, ho3, hb3⟩
        have hb3' := Lib.hid (ext_trans hb2'.out hb3)
        obtain ⟨A3, c3, rfl, hc3⟩ := own_shape ho3
        have hcv3 : ∀ w', Ext w3 w' → _ := fun w' hw' => run_text (c := c3) ((Row.own ho3).ext hw') 22 5 9 Try.underlying22 Try.underlying5 Try.underlying9
        have hcv3' := hcv3 w3 (Ext.refl w3)
        have hcvh := Lib.hid hcv3
        refine ⟨hb3, hK _ _ ?_⟩
        clear hK K hb3 hcv3 ho3
        repeat (refine wpCan_cons rfl ?_; intro K hK; go_simp; refine hK _ _ ?_; clear hK K)
        refine wpCan_cons rfl ?_
        intro K hK
        go_simp
        refine ⟨fun w' hw' => by rw [hcvh.out w' hw']; exact ⟨rfl, rfl⟩, hK _ _ ?_⟩
        clear hK K hcv3' hcvh
        repeat (refine wpCan_cons rfl ?_; intro K hK; go_simp; refine hK _ _ ?_; clear hK K)
        refine wpCan_cons rfl ?_
        intro K hK
        go_simp
        refine (rjoin_any l2 l3 _ c2 _ (hR2'.out.ext hb3'.out) (by omega) hj1.out).mono ?_
        rintro e w4 ⟨v4, rfl, ho4, hb4⟩
        have hb4' := Lib.hid (ext_trans hb3'.out hb4)
        obtain ⟨A4, c4, rfl, hc4⟩ := own_shape ho4
        have hcv4 : ∀ w', Ext w4 w' → _ := fun w' hw' => run_text (c := c4) ((Row.own ho4).ext hw') 22 5 9 Try.underlying22 Try.underlying5 Try.underlying9
        have hcv4' := hcv4 w4 (Ext.refl w4)
        have hcvh4 := Lib.hid hcv4
        refine ⟨hb4, hK _ _ ?_⟩
        clear hK K hb4 hcv4 ho4
        repeat (refine wpCan_cons rfl ?_; intro K hK; go_simp; refine hK _ _ ?_; clear hK K)
        refine wpCan_cons rfl ?_
        intro K hK
        go_simp
        refine ⟨fun w' hw' => by rw [hcvh4.out w' hw']; exact ⟨rfl, rfl⟩, hK _ _ ?_⟩
        clear hK K hcv4' hcvh4
        repeat (refine wpCan_cons rfl ?_; intro K hK; go_simp; refine hK _ _ ?_; clear hK K)
        refine wpCan_cons rfl ?_
        intro K hK
        go_simp
        refine (known_any _).mono ?_
        rintro e w5 ⟨rfl, hb5⟩
        have hb5' := Lib.hid (ext_trans hb4'.out hb5)
        refine ⟨hb5, hK _ _ ?_⟩
        clear hK K hb5
        repeat (refine wpCan_cons rfl ?_; intro K hK; go_simp; refine hK _ _ ?_; clear hK K)
        refine wpCan_nil ?_
        go_wp2
        go_returns
        exact ⟨rfl, ext_trans hb hb5'.out⟩
end Go.Proofs.Ytbddmnhmfmkbhaa
