/- Law 14's 'known': the runs that chapter 14 shows. -/
import Derived.Test.YtmmgfoepfapnkaaGreatDoorQ28
import Derived.Test.YtmmgfoepfapnkaaGreatDoorQ26
import Derived.Lib.SlBytesConst
namespace Go.Proofs.YtmmgfoepfapnkaaGreatDoor
open Go.RowKit
attribute [local go_sem] canOp readsAs readUpon

/-- a document that was laid as a literal -/
theorem srow_lit (w : World) (C : Array Value) (m : Nat × Nat) (n : Nat) (p l : List UInt8) (hC : C.toList = bcells l) (hn : l.length = n) :
    SRow ((w.alloc (.cells C 5 m)).alloc (.cells #[.string (bs p), .slice (some ⟨w.heap.size, 0, none⟩) n n] 33)) ((w.alloc (.cells C 5 m)).alloc (.cells #[.string (bs p), .slice (some ⟨w.heap.size, 0, none⟩) n n] 33)).heap.size
      (some ⟨w.heap.size + 1, 0, none⟩) 1 [⟨p, l⟩] [scell ⟨p, l⟩ (.slice (some ⟨w.heap.size, 0, none⟩) l.length l.length)] := by
  subst hn
  have hz : (w.alloc (.cells C 5 m)).heap.size = w.heap.size + 1 := by simp
  have hr := Row.fresh w 5 C m (n := l.length) (xs := bcells l) (by rw [← Array.length_toList, hC]; simp [bcells]) hC
  have hx := ext_alloc (w.alloc (.cells C 5 m)) (.cells #[.string (bs p), .slice (some ⟨w.heap.size, 0, none⟩) l.length l.length] 33)
  refine ⟨rfl, ⟨rfl, fun _ => ⟨w.heap.size + 1, 0, rfl, by simp, fun j u hj => ?_⟩⟩, ?_⟩
  · have h1 := heap_alloc_new (w.alloc (.cells C 5 m)) (.cells #[.string (bs p), .slice (some ⟨w.heap.size, 0, none⟩) l.length l.length] 33)
    rw [hz] at h1
    rw [Nat.zero_add, blk_cell h1]
    simpa [scell] using hj
  · exact ⟨_, [], rfl, ⟨some ⟨w.heap.size, 0, none⟩, l.length, rfl, Nat.le_refl _, hr.ext hx⟩, rfl⟩

/-- two of them, in a row that was appended to -/
theorem srow_two {w : World} {sw n : Nat} {l : List UInt8} {C : Array Value} {m : Nat × Nat} {v : Value} (hown : w.ownsRow sw 33 2 v 2 [.string ⟨#[97]⟩, .slice (some ⟨sw, 0, none⟩) n n, .string ⟨#[97]⟩, .slice (some ⟨sw, 0, none⟩) n n]) (hb : w.heap[sw]? = some (.cells C 5 m)) (hC : C.toList = bcells l) (hn : l.length = n) :
    ∃ A c, v = .slice A 2 c ∧ SRow w w.heap.size A 2 [⟨[97], l⟩, ⟨[97], l⟩] [scell ⟨[97], l⟩ (.slice (some ⟨sw, 0, none⟩) l.length l.length), scell ⟨[97], l⟩ (.slice (some ⟨sw, 0, none⟩) l.length l.length)] := by
  subst hn
  obtain ⟨A, c, rfl, hc⟩ := own_shape hown
  have hsc : SC w w.heap.size ⟨[97], l⟩ (scell ⟨[97], l⟩ (.slice (some ⟨sw, 0, none⟩) l.length l.length)) :=
    ⟨some ⟨sw, 0, none⟩, l.length, rfl, Nat.le_refl _, by simp [bcells], fun _ => ⟨sw, 0, rfl, (Array.getElem?_eq_some_iff.1 hb).1, fun j u hj => by
      rw [Nat.zero_add, blk_cell hb, ← Array.getElem?_toList, hC]; exact hj⟩⟩
  exact ⟨A, c, rfl, rfl, Row.own hown, _, _, rfl, hsc, _, _, rfl, hsc, rfl⟩
theorem lit_collect (w : World) (C : Array Value) (n : Nat) (l : List UInt8) (F : Ck.Flt) (ds : List Ck.Def) (hC : C.toList = bcells l) (hn : l.length = n) (h9 : n ≤ 100000) (hT : ATabs w) (hr : Ck.collect Ck.places [⟨[97], l⟩] = (F, ds)) :
    Calls Tryz.prog 23 #[.slice (some ⟨w.heap.size + 1, 0, none⟩) 1 1] ((w.alloc (.cells C 5 (n, n + 1))).alloc (.cells #[.string ⟨#[97]⟩, .slice (some ⟨w.heap.size, 0, none⟩) n n] 33))
      fun e w' => ∃ A c, e = .returned (.tuple #[.slice A ds.length c, fltv F]) ∧ OwnD w' (w.heap.size + 2) (.slice A ds.length c) ds ∧ Below w.heap.size w w' ∧ w'.heap[w.heap.size]? = some (.cells C 5 (n, n + 1)) ∧ w'.heap[w.heap.size + 1]? = some (.cells #[.string ⟨#[97]⟩, .slice (some ⟨w.heap.size, 0, none⟩) n n] 33 (0, 0)) := by
  have hz : (w.alloc (.cells C 5 (n, n + 1))).heap.size = w.heap.size + 1 := by simp
  have hz2 : ((w.alloc (.cells C 5 (n, n + 1))).alloc (.cells #[.string (bs [97]), .slice (some ⟨w.heap.size, 0, none⟩) n n] 33)).heap.size = w.heap.size + 2 := by simp
  have b1 := ext_alloc w (.cells C 5 (n, n + 1))
  have b2 := ext_alloc (w.alloc (.cells C 5 (n, n + 1))) (.cells #[.string (bs [97]), .slice (some ⟨w.heap.size, 0, none⟩) n n] 33)
  have g0 := heap_alloc_new w (.cells C 5 (n, n + 1))
  have g1 := heap_alloc_new (w.alloc (.cells C 5 (n, n + 1))) (.cells #[.string (bs [97]), .slice (some ⟨w.heap.size, 0, none⟩) n n] 33)
  have h := collect_any [⟨[97], l⟩] _ _ 1 _ (srow_lit w C (n, n + 1) n [97] l hC hn) (by simp) (by simp) (by simp; omega) (tabs_ext hT (ext_trans b1 b2)) (by rw [hz2]; omega)
  rw [hr, hz2] at h
  refine h.mono ?_
  rintro e w' ⟨⟨v, rfl, ho⟩, hb⟩
  obtain ⟨css, k1, k2⟩ := ho
  obtain ⟨A, c, rfl, hc⟩ := own_shape k1
  refine ⟨A, c, rfl, ⟨css, k1, k2⟩, (ext_trans b1 b2).trans (hb.mono (by omega)), ?_, ?_⟩
  · exact (hb.block _ (by omega)).trans ((b2.block _ (by rw [hz]; omega)).trans g0)
  · rw [hz] at g1
    exact (hb.block _ (by omega)).trans g1

set_option maxHeartbeats 8000000 in
set_option maxRecDepth 100000 in
theorem ck_known (w : World) (hT : ATabs w) :
    Calls Tryz.prog 11 #[] w fun e w' => e = .returned (.bool true) ∧ Below w.heap.size w w' := by
  have h2 := tabs_size hT
  have kc := fun (w : World) (C : Array Value) (n c : Nat) => Lib.run_convert_bytes_const (P := Tryz.prog) w 31 5 C n c Tryz.underlying31 Tryz.underlying5
  go_enter Tryz.func11, Tryz.ntmps11
  go_wp2_with fail
  refine (lit_collect w _ 95 knD0 _ _ (by kernel_rfl) rfl (by decide) hT kn_ck0).mono ?_
  rintro e w1 ⟨A1, c1, rfl, ho1, hb1, g0, g1⟩
  obtain ⟨C0, hC0⟩ : ∃ C0 : Array Value, C0.toList = bcells knD0 ∧ w1.heap[w.heap.size]? = some (.cells C0 5 (95, 96)) := ⟨_, by kernel_rfl, g0⟩
  clear g0
  have q0 := cell12 g1 (j := 0) rfl
  have q1 := cell12 g1 (j := 1) rfl
  replace hC0 := Lib.hid hC0
  replace g1 := Lib.hid g1
  replace ho1 := Lib.hid ho1
  replace hb1 := Lib.hid hb1
  obtain ⟨sw, hsw⟩ : ∃ sw, w.heap.size = sw := ⟨_, rfl⟩
  rw [hsw] at h2 ho1 hb1 hC0 g1 q0 q1 ⊢
  have kw1 : sw + 1 < w1.heap.size := (Array.getElem?_eq_some_iff.1 g1.out).1
  have f1 := heap_alloc_new w1 (.cells (fcells Ck.noF) 46)
  have bx1 := ext_alloc w1 (.cells (fcells Ck.noF) 46)
  have hown := Lib.hid (show (w1.alloc (.cells (fcells Ck.noF) 46)).ownsRow sw 33 2 (.slice (some ⟨sw + 1, 0, none⟩) 1 1) 1 [.string ⟨#[97]⟩, .slice (some ⟨sw, 0, none⟩) 95 95] from
    ⟨rfl, .inr ⟨sw + 1, 1, _, rfl, by omega, (bx1.block _ kw1).trans g1.out, Nat.le_refl _, by decide, rfl, rfl⟩⟩)
  go_wp2_with (at_builtin; refine wpList_app_new rfl (.tmp 20) (.tmp 24) rfl srcEI rfl hown.out rfl (by simp) rfl (by simp [Value.oneCell']) (by omega) (by omega) (by simp; omega) ?_; intro v2 w2 hown2 hg2 hb2)
  have hz1 : (w1.alloc (.cells (fcells Ck.noF) 46)).heap.size = w1.heap.size + 1 := by simp
  have kC := hC0.out.1
  have hz2 : w1.heap.size + 1 ≤ w2.heap.size := by have := hb2.size; simpa using this
  have k2 := (hg2.out.block sw (by rw [hz1]; omega) (by intro e; have e2 : sw = sw + 1 := Option.some.inj e; omega)).trans ((bx1.block _ (by omega)).trans hC0.out.2)
  obtain ⟨A2, c2, rfl, hS2⟩ := srow_two hown2 k2 kC rfl
  have hcol2 := collect_any [⟨[97], knD0⟩, ⟨[97], knD0⟩] _ A2 c2 w2 hS2 (by simp) (by simp) (by simp [knD0]) (tabs_low (tabs_ext hT (by rw [hsw]; exact hb1.out)) ((bx1.mono (by omega)).trans hb2) h2) (by omega)
  rw [kn_ck1] at hcol2
  have f2 := (hg2.out.block w1.heap.size (by rw [hz1]; omega) (by intro e; have e2 : w1.heap.size = sw + 1 := Option.some.inj e; omega)).trans f1
  have o2 := Lib.hid ((ho1.out.ext bx1).grown (g := sw + 1) hg2.out (by omega))
  have b2 := Lib.hid ((hb1.out.trans (bx1.mono (by omega))).trans hb2)
  replace hcol2 := Lib.hid hcol2
  replace f2 := Lib.hid f2
  clear hown2 hg2 hb2 hown f1 bx1 ho1 hb1 hC0 kC k2 hS2 q0 q1 g1
  refine hcol2.out.mono ?_
  rintro e w3 ⟨⟨v3, rfl, -⟩, hb3⟩
  have hz3 := hb3.size
  have f3 := Lib.hid ((keep f2.out hb3).1)
  have o3 := Lib.hid (o2.out.ext hb3)
  have b3 := Lib.hid (b2.out.trans (hb3.mono (by omega)))
  have h1f := heap_alloc_new w3 (.cells (fcells ⟨12, [97], 0, []⟩) 46)
  have bx3 := ext_alloc w3 (.cells (fcells ⟨12, [97], 0, []⟩) 46)
  have hz4 : (w3.alloc (.cells (fcells ⟨12, [97], 0, []⟩) 46)).heap.size = w3.heap.size + 1 := by simp
  have f4 := Lib.hid ((keep f3.out bx3).1)
  have o4 := Lib.hid (o3.out.ext bx3)
  have b4 := Lib.hid (b3.out.trans (bx3.mono (by omega)))
  have g4 := Lib.hid h1f
  replace hz4 := Lib.hid hz4
  clear f2 o2 b2 hcol2 f3 o3 b3 h1f bx3 hb3
  have y3 := Lib.hid (show sw + 3 ≤ w3.heap.size by omega)
  clear hz2 hz1
  go_upto_region 4 with fail
  obtain ⟨w4, hw4⟩ : ∃ w4, w3.alloc (.cells (fcells ⟨12, [97], 0, []⟩) 46) = w4 := ⟨_, rfl⟩
  rw [hw4] at hz4 f4 o4 b4 g4
  change Code.wp _ _ _ _ (w3.alloc (.cells (fcells ⟨12, [97], 0, []⟩) 46))
  rw [hw4]
  clear hw4
  have hT4 := tabs_ext hT (by rw [hsw]; exact b4.out)
  go_wp2_with fail
  refine (lit_collect w4 _ 23 knD2 _ _ (by kernel_rfl) rfl (by decide) hT4 kn_ck2).mono ?_
  rintro e w5 ⟨A5, c5, rfl, -, hb5, -, -⟩
  have hz5 := hb5.size
  have f5 := Lib.hid ((keep f4.out hb5).1)
  have g5 := Lib.hid ((keep g4.out hb5).1)
  have o5 := Lib.hid (o4.out.ext hb5)
  have b5 := Lib.hid (b4.out.trans (hb5.mono (by have := hz4.out; have := y3.out; omega)))
  have y5 := Lib.hid (show sw + 3 ≤ w5.heap.size by have := hz4.out; have := y3.out; omega)
  have h1f := heap_alloc_new w5 (.cells (fcells ⟨14, [97], 1, [98]⟩) 46)
  have bx5 := ext_alloc w5 (.cells (fcells ⟨14, [97], 1, [98]⟩) 46)
  have hz6 : Hid ((w5.alloc (.cells (fcells ⟨14, [97], 1, [98]⟩) 46)).heap.size = w5.heap.size + 1) := Lib.hid (by simp)
  have f6 := Lib.hid ((keep f5.out bx5).1)
  have g6 := Lib.hid ((keep g5.out bx5).1)
  have o6 := Lib.hid (o5.out.ext bx5)
  have b6 := Lib.hid (b5.out.trans (bx5.mono (by have := y5.out; omega)))
  have h6 := Lib.hid h1f
  clear f4 g4 o4 b4 hz4 y3 f5 g5 o5 b5 h1f bx5 hb5 hz5 hT4
  go_upto_region 5 with fail
  obtain ⟨w6, hw6⟩ : ∃ w6, w5.alloc (.cells (fcells ⟨14, [97], 1, [98]⟩) 46) = w6 := ⟨_, rfl⟩
  rw [hw6] at hz6 f6 g6 o6 b6 h6
  change Code.wp _ _ _ _ (w5.alloc (.cells (fcells ⟨14, [97], 1, [98]⟩) 46))
  rw [hw6]
  clear hw6
  have hT6 := tabs_ext hT (by rw [hsw]; exact b6.out)
  go_wp2_with fail
  refine (lit_collect w6 _ 22 knD3 _ _ (by kernel_rfl) rfl (by decide) hT6 kn_ck3).mono ?_
  rintro e w7 ⟨A7, c7, rfl, -, hb7, -, -⟩
  have hz7 := hb7.size
  have f7 := (keep f6.out hb7).1
  have g7 := (keep g6.out hb7).1
  have h7 := (keep h6.out hb7).1
  have o7 := o6.out.ext hb7
  have b7 := b6.out.trans (hb7.mono (by have := hz6.out; have := y5.out; omega))
  have y7 : sw + 3 ≤ w7.heap.size := by have := hz6.out; have := y5.out; omega
  have h1f := heap_alloc_new w7 (.cells (fcells ⟨13, [97], 0, []⟩) 46)
  have bx7 := ext_alloc w7 (.cells (fcells ⟨13, [97], 0, []⟩) 46)
  have f8 := Lib.hid (keep f7 bx7).1
  have g8 := Lib.hid (keep g7 bx7).1
  have h8 := Lib.hid (keep h7 bx7).1
  have i8 := Lib.hid h1f
  have o8 := Lib.hid (o7.ext bx7)
  have b8 := Lib.hid (b7.trans (bx7.mono (by omega)))
  clear f6 g6 h6 o6 b6 hz6 y5 f7 g7 h7 o7 b7 h1f bx7 hb7 hz7 y7 hT6
  go_upto_region 6 with fail
  obtain ⟨w8, hw8⟩ : ∃ w8, w7.alloc (.cells (fcells ⟨13, [97], 0, []⟩) 46) = w8 := ⟨_, rfl⟩
  rw [hw8] at f8 g8 h8 i8 o8 b8
  change Code.wp _ _ _ _ (w7.alloc (.cells (fcells ⟨13, [97], 0, []⟩) 46))
  rw [hw8]
  clear hw8
  obtain ⟨css8, hD8, -⟩ := o8.out.row
  have hd8 : ∀ d ∈ [knA, knB, knC], DOk d := fun d hd => by
    have := (Ck.collect_ok [⟨[97], knD0⟩]) d
    rw [kn_ck0] at this
    exact (this hd).ok
  have q8 := fun key (w' : World) (hb : Below w8.heap.size w8 w') => of_any [knA, knB, knC] css8 A1 c1 key w' (hD8.ext hb) hd8 (by decide)
  have k8 := fun (w' : World) (hb : Below w8.heap.size w8 w') => keys_any [knA, knB, knC] css8 A1 c1 w' (hD8.ext hb) hd8 (by decide)
  have l8 := fun (w' : World) (hb : Below w8.heap.size w8 w') => files_any [knA, knB, knC] css8 A1 c1 w' (hD8.ext hb) hd8 (by decide)
  have p8 := fun key hk (w' : World) (hb : Below w8.heap.size w8 w') => path_any key w' hk (tabs_ext (tabs_ext hT (by rw [hsw]; exact b8.out)) hb)
  obtain ⟨b, o, rfl, hbb, hcc⟩ := hD8.def_at (by decide)
  obtain ⟨LA, lc, m1, m2, m3⟩ := hcc 0 (by decide)
  obtain ⟨LB, ld, n1, n2, n3⟩ := hcc 1 (by decide)
  obtain ⟨LC, le, _, _, r3⟩ := hcc 2 (by decide)
  obtain ⟨b1, o1, rfl, hb1, v0⟩ := txt_cell m2 (k := 0) (by decide)
  have a0 : w8.cell? ⟨b, o + 11, none⟩ = some (.slice (some ⟨b1, o1, none⟩) 2 lc) := m3 11 _ rfl
  have a1 : w8.cell? ⟨b, o + 10, none⟩ = some (.string ⟨#[98]⟩) := m3 10 _ rfl
  have a2 : w8.cell? ⟨b, o + 1, none⟩ = some (.int .i64 1) := m3 1 _ rfl
  have a3 : w8.cell? ⟨b, o + 2, none⟩ = some (.int .i64 27) := m3 2 _ rfl
  have a4 : w8.cell? ⟨b, o + 3, none⟩ = some (.int .i64 32) := m3 3 _ rfl
  have a5 : w8.cell? ⟨b1, o1, none⟩ = some (.string ⟨#[99]⟩) := v0
  have e0 : w8.cell? ⟨b, o + 23, none⟩ = some (.slice LB 1 ld) := n3 11 _ rfl
  have e1 : w8.cell? ⟨b, o + 19, none⟩ = some (.string ⟨#[35]⟩) := n3 7 _ rfl
  have e2 : w8.cell? ⟨b, o + 20, none⟩ = some (.bool true) := n3 8 _ rfl
  have z0 : w8.cell? ⟨b, o + 34, none⟩ = some (.string ⟨#[102]⟩) := r3 10 _ rfl
  have z1 : w8.cell? ⟨b, o + 30, none⟩ = some (.string ⟨#[102]⟩) := r3 6 _ rfl
  have fa0 : w8.cell? ⟨w1.heap.size, 0, none⟩ = some (.int .i64 0) := cell12 f8.out rfl
  have fa1 : w8.cell? ⟨w1.heap.size, 1, none⟩ = some (.string ⟨#[]⟩) := cell12 f8.out rfl
  have fa2 : w8.cell? ⟨w1.heap.size, 2, none⟩ = some (.int .i64 0) := cell12 f8.out rfl
  have fa3 : w8.cell? ⟨w1.heap.size, 3, none⟩ = some (.string ⟨#[]⟩) := cell12 f8.out rfl
  have ga0 : w8.cell? ⟨w3.heap.size, 0, none⟩ = some (.int .i64 12) := cell12 g8.out rfl
  have ga1 : w8.cell? ⟨w3.heap.size, 1, none⟩ = some (.string ⟨#[97]⟩) := cell12 g8.out rfl
  have ga2 : w8.cell? ⟨w3.heap.size, 2, none⟩ = some (.int .i64 0) := cell12 g8.out rfl
  have ga3 : w8.cell? ⟨w3.heap.size, 3, none⟩ = some (.string ⟨#[]⟩) := cell12 g8.out rfl
  have ha0 : w8.cell? ⟨w5.heap.size, 0, none⟩ = some (.int .i64 14) := cell12 h8.out rfl
  have ha1 : w8.cell? ⟨w5.heap.size, 1, none⟩ = some (.string ⟨#[97]⟩) := cell12 h8.out rfl
  have ha2 : w8.cell? ⟨w5.heap.size, 2, none⟩ = some (.int .i64 1) := cell12 h8.out rfl
  have ha3 : w8.cell? ⟨w5.heap.size, 3, none⟩ = some (.string ⟨#[98]⟩) := cell12 h8.out rfl
  have ia0 : w8.cell? ⟨w7.heap.size, 0, none⟩ = some (.int .i64 13) := cell12 i8.out rfl
  have ia1 : w8.cell? ⟨w7.heap.size, 1, none⟩ = some (.string ⟨#[97]⟩) := cell12 i8.out rfl
  have ia2 : w8.cell? ⟨w7.heap.size, 2, none⟩ = some (.int .i64 0) := cell12 i8.out rfl
  have ia3 : w8.cell? ⟨w7.heap.size, 3, none⟩ = some (.string ⟨#[]⟩) := cell12 i8.out rfl
  replace q8 := Lib.hid q8
  replace k8 := Lib.hid k8
  replace l8 := Lib.hid l8
  replace p8 := Lib.hid p8
  have b8' := Lib.hid (show Below w.heap.size w w8 by rw [hsw]; exact b8.out)
  clear kc hD8 hd8 hbb hcc m1 m2 m3 n1 n2 n3 r3 v0 hb1 f8 g8 h8 i8 o8 b8
  go_wp2_with fail
  refine (q8.out [98] w8 (Below.refl _ _)).mono ?_
  rw [kn_ck4]
  rintro e x1 ⟨y1, rfl, ⟨j1, j2, -⟩, d1⟩
  obtain ⟨B1, t1, rfl, -⟩ := own_shape j2
  clear a0 a1 a2 a3 a4 a5 e0 e1 e2 z0 z1 fa0 fa1 fa2 fa3 ga0 ga1 ga2 ga3 ha0 ha1 ha2 ha3 ia0 ia1 ia2 ia3 j2
  replace d1 := Lib.hid d1
  go_wp2_with fail
  refine (q8.out [113] x1 d1.out).mono ?_
  rw [kn_ck5]
  rintro e x2 ⟨y2, rfl, ⟨j3, j4, -⟩, d2⟩
  obtain ⟨B2, t2, rfl, -⟩ := own_shape j4
  replace d2 := Lib.hid (ext_trans d1.out d2)
  clear j4 d1
  go_wp2_with fail
  refine (k8.out x2 d2.out).mono ?_
  rw [kn_ck6]
  rintro e x3 ⟨y3, rfl, j5, d3⟩
  obtain ⟨B3, t3, rfl, -⟩ := own_shape j5
  replace d3 := Lib.hid (ext_trans d2.out d3)
  clear j5 d2
  go_wp2_with fail
  refine (l8.out x3 d3.out).mono ?_
  rw [kn_ck7]
  rintro e x4 ⟨y4, rfl, j6, d4⟩
  obtain ⟨B4, t4, rfl, -⟩ := own_shape j6
  replace d4 := Lib.hid (ext_trans d3.out d4)
  clear j6 d3
  go_wp2_with fail
  refine (p8.out [97, 32, 98] (by decide) x4 d4.out).mono ?_
  rw [kn_ck8]
  rintro e x5 ⟨rfl, d5⟩
  replace d5 := Lib.hid (ext_trans d4.out d5)
  clear d4
  go_wp2_with fail
  refine (p8.out [97, 58, 98] (by decide) x5 d5.out).mono ?_
  rw [kn_ck9]
  rintro e x6 ⟨rfl, d6⟩
  replace d6 := Lib.hid (ext_trans d5.out d6)
  clear d5
  go_wp2_with fail
  refine (p8.out [] (by decide) x6 d6.out).mono ?_
  rw [kn_ckA]
  rintro e x7 ⟨rfl, d7⟩
  replace d7 := Lib.hid (ext_trans b8'.out (ext_trans d6.out d7))
  clear d6
  go_wp2_with fail
  go_ret
  exact ⟨rfl, d7.out⟩
end Go.Proofs.YtmmgfoepfapnkaaGreatDoor
