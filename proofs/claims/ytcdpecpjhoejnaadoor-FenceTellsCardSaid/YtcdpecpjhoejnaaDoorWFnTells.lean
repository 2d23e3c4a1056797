/- FenceTells: fences are known as the document says, for any lines. -/
import Derived.Test.YtcdpecpjhoejnaaDoorFnSame
import Derived.Test.YtcdpecpjhoejnaaDoorFnMadeF
namespace Go.Proofs.YtcdpecpjhoejnaaDoor
open Go.RowKit
attribute [local go_sem] canOp readsAs readUpon

set_option maxHeartbeats 8000000 in
set_option maxRecDepth 100000 in
theorem tells_law (l0 : List UInt8) (l1 : List UInt8) (A1 : Option Addr) (c1 : Nat) (l2 : List UInt8) (A2 : Option Addr) (c2 : Nat) (l3 : List (List UInt8)) (A3 : Option Addr) (c3 : Nat) (x n : Int) (w : World) (hz0 : l0.length ≤ 140737488351232)
    (h1 : Row w w.heap.size 1 A1 l1.length (bcells l1)) (hc1 : l1.length ≤ c1) (hm1 : c1 ≤ maxLen) (h2 : Row w w.heap.size 1 A2 l2.length (bcells l2)) (hc2 : l2.length ≤ c2) (hm2 : c2 ≤ maxLen)
    (h3 : Row w w.heap.size 1 A3 l3.length (scells l3)) (_hc3 : l3.length ≤ c3) (_hm3 : c3 ≤ maxLen) (hn3 : l3.length * 16 ≤ reachBytes) (hs3 : ∀ s ∈ l3, s.length ≤ reachBytes)
    (hx : 0 ≤ x ∧ x ≤ 255) (_hn : -9223372036854775808 ≤ n ∧ n ≤ 9223372036854775807) :
    Calls Tryd.prog 4 #[.string (bs l0), .slice A1 l1.length c1, .slice A2 l2.length c2, .slice A3 l3.length c3, .int .u8 x, .int .i64 n] w fun e w' => e = .returned (.bool true) ∧ Below w.heap.size w w' := by
  obtain ⟨c, rfl⟩ : ∃ c : UInt8, x = (c.toNat : Int) := ⟨UInt8.ofNat x.toNat, by rw [UInt8.toNat_ofNat']; omega⟩
  rw [show reachBytes = 140737488351232 from by decide] at hn3 hs3
  have hl1 : l1.length ≤ 9223372036854775807 := by unfold maxLen at hm1; omega
  have hl2 : l2.length ≤ 9223372036854775807 := by unfold maxLen at hm2; omega
  have hR1 := Lib.hid h1
  have hR2 := Lib.hid h2
  have hR3 := Lib.hid h3
  replace hs3 := Lib.hid hs3
  clear h1 h2 h3 hc1 hc2 hm1 hm2 hx
  have m1 := md_len 24 l1
  have m2 := md_len 24 l2
  have hmd1 : (md 24 l1).length ≤ 72 := by
    by_cases h : 24 ≤ l1.length
    · exact md_len 24 l1 h
    · have h1 := md_len l1.length l1 (Nat.le_refl _)
      rw [md_stop (Nat.le_refl _) (by omega) (.inl (Nat.le_refl _))] at h1; omega
  have hmd2 : (md 24 l2).length ≤ 72 := by
    by_cases h : 24 ≤ l2.length
    · exact md_len 24 l2 h
    · have h1 := md_len l2.length l2 (Nat.le_refl _)
      rw [md_stop (Nat.le_refl _) (by omega) (.inl (Nat.le_refl _))] at h1; omega
  have b1 := fun w h => made_fn l1 A1 c1 w h hl1
  have b2 := fun w h => made_fn l2 A2 c2 w h hl2
  obtain ⟨M1, hM1⟩ : ∃ M, md 24 l1 = M := ⟨_, rfl⟩
  obtain ⟨M2, hM2⟩ : ∃ M, md 24 l2 = M := ⟨_, rfl⟩
  rw [hM1] at b1 hmd1
  rw [hM2] at b2 hmd2
  clear hM1 hM2 m1 m2
  go_enter Tryd.func4, Tryd.ntmps4
  go_wp2
  obtain ⟨w0, hw0⟩ : ∃ w0, w0 = ((w.alloc (.cells #[.int .u8 (c.toNat : Int), .int .i64 n, .int .i64 0, .string ⟨#[]⟩] 28)).alloc (.cells #[.int .u8 (c.toNat : Int), .int .i64 n, .int .i64 0, .string ⟨#[]⟩] 29)).drew := ⟨_, rfl⟩
  have hb0 : Hid (Below w.heap.size w w0) := Lib.hid (by rw [hw0]; exact ext_trans (ext_alloc _ _) (ext_trans (ext_alloc _ _) (ext_drew _)))
  have f0 : Hid (w0.heap[w.heap.size]? = some (.cells #[.int .u8 (c.toNat : Int), .int .i64 n, .int .i64 0, .string ⟨#[]⟩] 28)) := Lib.hid (by rw [hw0]; exact (keep (heap_alloc_new w _) (ext_alloc _ _)).1)
  have p0 : Hid (w0.heap[w.heap.size + 1]? = some (.cells #[.int .u8 (c.toNat : Int), .int .i64 n, .int .i64 0, .string ⟨#[]⟩] 29)) := Lib.hid (by
    rw [hw0]
    have := heap_alloc_new (w.alloc (.cells #[.int .u8 (c.toNat : Int), .int .i64 n, .int .i64 0, .string ⟨#[]⟩] 28)) (.cells #[.int .u8 (c.toNat : Int), .int .i64 n, .int .i64 0, .string ⟨#[]⟩] 29)
    rw [show (w.alloc (.cells #[.int .u8 (c.toNat : Int), .int .i64 n, .int .i64 0, .string ⟨#[]⟩] 28)).heap.size = w.heap.size + 1 from by simp] at this
    exact this)
  have e1 := fun w => ends_any c n 0 ⟨#[]⟩ M2 w (by omega)
  have e2 := fun w => rends_any c n 0 ⟨#[]⟩ M2 w (by omega)
  have e3 := fun w => ends_any c n 0 ⟨#[]⟩ l0 w (by omega)
  have e4 := fun w => rends_any c n 0 ⟨#[]⟩ l0 w (by omega)
  unfold fv at e1 e2 e3 e4
  obtain ⟨E, hE⟩ : ∃ E, Fn.ends c n M2 = E := ⟨_, rfl⟩
  obtain ⟨F, hF⟩ : ∃ F, Fn.ends c n l0 = F := ⟨_, rfl⟩
  rw [hE] at e1 e2
  rw [hF] at e3 e4
  clear hE hF
  refine wp_region_can [(true, 0), (true, 1), (false, 2), (true, 3), (true, 4), (true, 6), (true, 8), (false, 5), (false, 7), (false, 9), (false, 10), (true, 11), (true, 12), (true, 13), (true, 14), (true, 17), (true, 18), (false, 15), (false, 16), (false, 19), (false, 20), (true, 21), (true, 22), (true, 23), (true, 24), (true, 25), (true, 27), (true, 28), (false, 26), (false, 29), (true, 30), (true, 31), (true, 32), (false, 33), (true, 34), (true, 35)] (Ext _) (Ext.refl _) (by kernel_rfl) (by kernel_rfl) (by kernel_rfl) (fun _ _ d _ _ h => by cases d <;> exact h) ?_
  rw [← hw0]
  clear hw0
  repeat (first | refine wpCan_move rfl ?_ | (refine wpCan_cons rfl ?_; intro K hK; go_simp; refine hK _ _ _ ?_; clear hK K))
  refine wpCan_cons rfl ?_
  intro K hK
  go_simp
  refine (same_any l0 l3 A3 c3 _ (hR3.out.ext hb0.out) (by omega) (by omega) (fun s hs => by have := hs3.out s hs; omega)).mono ?_
  rintro e w1 ⟨rfl, hb⟩
  refine can_ext hb (hK _ _ _ ?_)
  have hb1 := Lib.hid (ext_trans hb0.out hb)
  have f1 := Lib.hid (keep f0.out hb).1
  have p1 := Lib.hid (keep p0.out hb).1
  clear hK K hb
  repeat (first | refine wpCan_move rfl ?_ | (refine wpCan_cons rfl ?_; intro K hK; go_simp; refine hK _ _ _ ?_; clear hK K))
  refine wpCan_cons rfl ?_
  intro K hK
  go_simp
  refine (b1 _ (hR1.out.ext hb1.out)).mono ?_
  rintro e w2 ⟨rfl, hb⟩
  refine can_ext hb (hK _ _ _ ?_)
  have hb2 := Lib.hid (ext_trans hb1.out hb)
  have f2 := Lib.hid (keep f1.out hb).1
  have p2 := Lib.hid (keep p1.out hb).1
  clear hK K hb
  refine wpCan_cons rfl ?_
  intro K hK
  go_simp
  refine (b2 _ (hR2.out.ext hb2.out)).mono ?_
  rintro e w3 ⟨rfl, hb⟩
  refine can_ext hb (hK _ _ _ ?_)
  have hb3 := Lib.hid (ext_trans hb2.out hb)
  have f3 := Lib.hid (keep f2.out hb).1
  have p3 := Lib.hid (keep p2.out hb).1
  clear hK K hb
  refine wpCan_cons rfl ?_
  intro K hK
  go_simp
  refine can_ext (ext_alloc w3 _) (hK _ _ _ ?_)
  have f4 := Lib.hid (keep f3.out (ext_alloc w3 (.cells #[.string (bs M2), .string (bs l0)] 9))).1
  have p4 := Lib.hid (keep p3.out (ext_alloc w3 (.cells #[.string (bs M2), .string (bs l0)] 9))).1
  have hb4 := Lib.hid (ext_trans hb3.out (ext_alloc w3 (.cells #[.string (bs M2), .string (bs l0)] 9)))
  clear hK K
  refine wpCan_cons rfl ?_
  intro K hK
  go_simp
  refine (same_any M1 [M2, l0] _ _ _ (Row.fresh w3 9 #[.string (bs M2), .string (bs l0)] (0, 0) rfl rfl) (by omega) (by simp) (by intro s hs; simp at hs; rcases hs with rfl | rfl <;> omega)).mono ?_
  rintro e w5 ⟨rfl, hb⟩
  refine can_ext hb (hK _ _ _ ?_)
  have hb5 := Lib.hid (ext_trans hb4.out hb)
  have f5 := Lib.hid (keep f4.out hb).1
  have p5 := Lib.hid (keep p4.out hb).1
  clear hK K hb
  repeat (first | refine wpCan_move rfl ?_ | (refine wpCan_cons rfl ?_; intro K hK; go_simp; refine hK _ _ _ ?_; clear hK K))
  refine wpCan_read (.agg #[.int .u8 (c.toNat : Int), .int .i64 n, .int .i64 0, .string ⟨#[]⟩]) rfl (by go_simp) (Ext.refl _) (fun u hu => by obtain ⟨k0, k1, k2, k3⟩ := four (keep f5.out hu).1; go_simp) ?_
  repeat (first | refine wpCan_move rfl ?_ | (refine wpCan_cons rfl ?_; intro K hK; go_simp; refine hK _ _ _ ?_; clear hK K))
  refine wpCan_read (.agg #[.int .u8 (c.toNat : Int), .int .i64 n, .int .i64 0, .string ⟨#[]⟩]) rfl (by go_simp) (Ext.refl _) (fun u hu => by obtain ⟨k0, k1, k2, k3⟩ := four (keep p5.out hu).1; go_simp) ?_
  repeat (first | refine wpCan_move rfl ?_ | (refine wpCan_cons rfl ?_; intro K hK; go_simp; refine hK _ _ _ ?_; clear hK K))
  refine wpCan_cons rfl ?_
  intro K hK
  go_simp
  refine (b2 _ (hR2.out.ext hb5.out)).mono ?_
  rintro e w6 ⟨rfl, hb⟩
  refine can_ext hb (hK _ _ _ ?_)
  have hb6 := Lib.hid (ext_trans hb5.out hb)
  have f6 := Lib.hid (keep f5.out hb).1
  have p6 := Lib.hid (keep p5.out hb).1
  clear hK K hb
  refine wpCan_cons rfl ?_
  intro K hK
  go_simp
  refine (e1 _).mono ?_
  rintro e w7 ⟨rfl, hb⟩
  refine can_ext hb (hK _ _ _ ?_)
  have hb7 := Lib.hid (ext_trans hb6.out hb)
  have f7 := Lib.hid (keep f6.out hb).1
  have p7 := Lib.hid (keep p6.out hb).1
  clear hK K hb
  refine wpCan_cons rfl ?_
  intro K hK
  go_simp
  refine (b2 _ (hR2.out.ext hb7.out)).mono ?_
  rintro e w8 ⟨rfl, hb⟩
  refine can_ext hb (hK _ _ _ ?_)
  have hb8 := Lib.hid (ext_trans hb7.out hb)
  have f8 := Lib.hid (keep f7.out hb).1
  have p8 := Lib.hid (keep p7.out hb).1
  clear hK K hb
  refine wpCan_cons rfl ?_
  intro K hK
  go_simp
  refine (e2 _).mono ?_
  rintro e w9 ⟨rfl, hb⟩
  refine can_ext hb (hK _ _ _ ?_)
  have hb9 := Lib.hid (ext_trans hb8.out hb)
  have f9 := Lib.hid (keep f8.out hb).1
  have p9 := Lib.hid (keep p8.out hb).1
  clear hK K hb
  repeat (first | refine wpCan_move rfl ?_ | (refine wpCan_cons rfl ?_; intro K hK; go_simp; refine hK _ _ _ ?_; clear hK K))
  refine wpCan_read (.agg #[.int .u8 (c.toNat : Int), .int .i64 n, .int .i64 0, .string ⟨#[]⟩]) rfl (by go_simp) (Ext.refl _) (fun u hu => by obtain ⟨k0, k1, k2, k3⟩ := four (keep f9.out hu).1; go_simp) ?_
  repeat (first | refine wpCan_move rfl ?_ | (refine wpCan_cons rfl ?_; intro K hK; go_simp; refine hK _ _ _ ?_; clear hK K))
  refine wpCan_read (.agg #[.int .u8 (c.toNat : Int), .int .i64 n, .int .i64 0, .string ⟨#[]⟩]) rfl (by go_simp) (Ext.refl _) (fun u hu => by obtain ⟨k0, k1, k2, k3⟩ := four (keep p9.out hu).1; go_simp) ?_
  repeat (first | refine wpCan_move rfl ?_ | (refine wpCan_cons rfl ?_; intro K hK; go_simp; refine hK _ _ _ ?_; clear hK K))
  refine wpCan_cons rfl ?_
  intro K hK
  go_simp
  refine (e3 _).mono ?_
  rintro e w10 ⟨rfl, hb⟩
  refine can_ext hb (hK _ _ _ ?_)
  have hb10 := Lib.hid (ext_trans hb9.out hb)
  have f10 := Lib.hid (keep f9.out hb).1
  have p10 := Lib.hid (keep p9.out hb).1
  clear hK K hb
  refine wpCan_cons rfl ?_
  intro K hK
  go_simp
  refine (e4 _).mono ?_
  rintro e w11 ⟨rfl, hb⟩
  refine can_ext hb (hK _ _ _ ?_)
  have hb11 := Lib.hid (ext_trans hb10.out hb)
  have f11 := Lib.hid (keep f10.out hb).1
  have p11 := Lib.hid (keep p10.out hb).1
  clear hK K hb
  repeat (first | refine wpCan_move rfl ?_ | (refine wpCan_cons rfl ?_; intro K hK; go_simp; refine hK _ _ _ ?_; clear hK K))
  refine wpCan_cons rfl ?_
  intro K hK
  go_simp
  refine (known_any _).mono ?_
  rintro e w12 ⟨rfl, hb⟩
  refine can_ext hb (hK _ _ _ ?_)
  have hb12 := Lib.hid (ext_trans hb11.out hb)
  have f12 := Lib.hid (keep f11.out hb).1
  have p12 := Lib.hid (keep p11.out hb).1
  clear hK K hb
  repeat (first | refine wpCan_move rfl ?_ | (refine wpCan_cons rfl ?_; intro K hK; go_simp; refine hK _ _ _ ?_; clear hK K))
  refine wpCan_nil ?_
  go_wp2
  go_ret
  exact ⟨rfl, hb12.out⟩
end Go.Proofs.YtcdpecpjhoejnaaDoor
