/- Law 7's 'known': the runs that chapter 7 shows. -/
import Derived.Test.YtmbcddehacfpgaaDoorMr22
import Derived.Test.YtmbcddehacfpgaaDoorMr13
import Derived.Lib.SlBytesConst
namespace Go.Proofs.YtmbcddehacfpgaaDoor
open Go.RowKit
attribute [local go_sem] canOp readsAs readUpon

theorem wpList_wanted {P : Program} {ops : Array Oper} {Q : Exit → Act → World → Prop} {a : Act} {w : World} {rest : List Oper} {o : Oper} (hw : Region.wanted o (yielded ops a.tmps) = true)
    (h : ∀ K : Act → World → Prop, (∀ a w, wpList P ops Q rest a w → K a w) → o.wp P a w K Q) : wpList P ops Q (o :: rest) a w :=
  wpList_step fun K hK => by rw [if_pos hw]; exact h K hK
theorem wpList_move {P : Program} {ops : Array Oper} {Q : Exit → Act → World → Prop} {a : Act} {w : World} {rest : List Oper} {d : Tmp} {x : Operand} {ty : TypeId} {pos : String} {af : Array Edge} {gd : Option (Nat × Bool)}
    (hw : Region.wanted ⟨some d, .move x, ty, pos, af, gd⟩ (yielded ops a.tmps) = true) (h : wpList P ops Q rest (a.put (some d) (a.eval x)) w) : wpList P ops Q (⟨some d, .move x, ty, pos, af, gd⟩ :: rest) a w :=
  wpList_step fun K hK => by
    rw [if_pos hw]
    show K (a.put (some d) (a.eval x)) w
    exact hK _ _ h
theorem cell_mono {w w' : World} (hb : Below w.heap.size w w') {p : Addr} {v : Value} (h : w.cell? p = some v) : w'.cell? p = some v := (hb.cell (World.block_lt_of_cell? w p h)).trans h
/-- a tree's cells, and its kids' -/
theorem tc_kids {w : World} {Q : Nat → Prop} {kd lv : Nat} {t inf : List UInt8} {ln : Nat} {ks : List Bk.Tree} {cs : List Value} (h : TC w Q (.mk kd lv t inf ln ks) cs) : ∃ A c, cs = [.int .i64 (kd : Int), .int .i64 (lv : Int), .string (bs t), .string (bs inf), .int .i64 (ln : Int), .slice A ks.length c] ∧ ks.length ≤ c ∧
    (0 < ks.length → ∃ b o, A = some ⟨b, o, none⟩ ∧ ∀ k (hk : k < ks.length), ∃ kc, TC w Q ks[k] kc ∧ ∀ j u, kc[j]? = some u → w.cell? ⟨b, o + (k * 6 + j), none⟩ = some u) := by
  unfold TC at h
  obtain ⟨A, c, css, h1, h2, h3, h4⟩ := h
  refine ⟨A, c, h1, h2, fun h0 => ?_⟩
  obtain ⟨b, o, e1, _, e2⟩ := h3.2 h0
  refine ⟨b, o, e1, fun k hk => ?_⟩
  obtain ⟨kc, t1, t2⟩ := TCs_at h4 hk
  refine ⟨kc, t1, fun j u hj => e2 _ _ ?_⟩
  have hj6 : j < 6 := by have := (List.getElem?_eq_some_iff.1 hj).1; rw [TC_length t1] at this; exact this
  rw [t2 j hj6]; exact hj

theorem fresh2 (w : World) (X : Obj) (E : TypeId) (C : Array Value) (m : Nat × Nat) {n : Nat} {xs : List Value} (hn : C.size = n) (hx : C.toList = xs) :
    Row ((w.alloc X).alloc (.cells C E m)) ((w.alloc X).alloc (.cells C E m)).heap.size 1 (some ⟨w.heap.size + 1, 0, none⟩) n xs := by
  have h := Row.fresh (w.alloc X) E C m hn hx
  have e : (w.alloc X).heap.size = w.heap.size + 1 := by simp
  rw [e] at h
  exact h
theorem below_past2 {w w1 w2 : World} {X Y : Obj} (h1 : Below w.heap.size w w1) (h2 : Below ((w1.alloc X).alloc Y).heap.size ((w1.alloc X).alloc Y) w2) : Below w.heap.size w w2 ∧ Below w1.heap.size w1 w2 := by
  have h3 : Below w1.heap.size w1 w2 := ((ext_alloc w1 X).trans ((ext_alloc (w1.alloc X) Y).mono (by simp))).trans (h2.mono (by simp; omega))
  exact ⟨h1.trans (h3.mono h1.size), h3⟩
theorem var_past2 {w1 w2 : World} {cs : List Value} {t : TypeId} {fr : Nat × Nat} {Y : Obj} (h2 : Below ((w1.alloc (.cells ⟨cs⟩ t fr)).alloc Y).heap.size ((w1.alloc (.cells ⟨cs⟩ t fr)).alloc Y) w2) {j : Nat} {u : Value} (hj : cs[j]? = some u) : w2.cell? ⟨w1.heap.size, j, none⟩ = some u := by
  refine (h2.cell (p := ⟨w1.heap.size, j, none⟩) (by simp; omega)).trans ?_
  refine ((ext_alloc (w1.alloc (.cells ⟨cs⟩ t fr)) Y).cell (p := ⟨w1.heap.size, j, none⟩) (by simp)).trans ?_
  exact cell_of (heap_alloc_new w1 (.cells ⟨cs⟩ t fr)) hj
set_option maxHeartbeats 8000000 in
set_option maxRecDepth 100000 in
theorem bknown_any (w : World) :
    Calls Tryd.prog 10 #[] w fun e w' => e = .returned (.bool true) ∧ Below w.heap.size w w' := by
  have kc := fun (w : World) (C : Array Value) (n c : Nat) => Lib.run_convert_bytes_const (P := Tryd.prog) w 23 5 C n c Tryd.underlying23 Tryd.underlying5
  have kc2 : ∀ (w : World) (X : Obj) (C : Array Value) (n c : Nat), Sem.run Tryd.prog (convert 23 23 (Value.slice (some ⟨w.heap.size + 1, 0, none⟩) n c)) ((w.alloc X).alloc (Obj.cells C 5)) = Result.ok (Value.slice (some ⟨w.heap.size + 1, 0, none⟩) n c) ((w.alloc X).alloc (Obj.cells C 5 (C.size, C.size + 1))) := fun w X C n c => by
    have h := kc (w.alloc X) C n c
    have e : (w.alloc X).heap.size = w.heap.size + 1 := by simp
    rw [e] at h
    exact h
  go_enter Tryd.func10, Tryd.ntmps10
  go_wp2_with fail
  refine (pparse [62, 32, 97, 10, 98, 10, 45, 32, 99, 10, 10, 45, 32, 100, 10] _ 15 _ (Row.fresh _ _ _ _ rfl rfl) (by decide) (by decide)).mono ?_
  rintro e w1 ⟨ca, rfl, ha, hb1'⟩
  have hb1 := Lib.hid (ext_trans (ext_alloc _ _) hb1')
  rw [show Pb.tree (Pb.linesOf [62, 32, 97, 10, 98, 10, 45, 32, 99, 10, 10, 45, 32, 100, 10]) = _ from kn_a] at ha
  obtain ⟨A0, c0, rfl, -, hk0⟩ := tc_kids ha
  obtain ⟨b0, o0, rfl, kk0⟩ := hk0 (by decide)
  clear hk0
  obtain ⟨q0, t0, x0⟩ := kk0 0 (by decide)
  obtain ⟨q1, t1, x1⟩ := kk0 1 (by decide)
  obtain ⟨A1, c1, rfl, hl1, hk1⟩ := tc_kids t0
  obtain ⟨b1, o1, rfl, kk1⟩ := hk1 (by decide)
  clear hk1
  obtain ⟨q2, t2, x2⟩ := kk1 0 (by decide)
  obtain ⟨A3, c3, rfl, -, -⟩ := tc_kids t2
  obtain ⟨A2, c2, rfl, hl2, hk2⟩ := tc_kids t1
  obtain ⟨b2, o2, rfl, kk2⟩ := hk2 (by decide)
  clear hk2
  obtain ⟨q3, t3, x3⟩ := kk2 1 (by decide)
  obtain ⟨A4, c4, rfl, -, -⟩ := tc_kids t3
  have f0 := x0 5 _ rfl
  have f1 := x1 5 _ rfl
  have f2 := x1 0 _ rfl
  have f3 := x2 2 _ rfl
  have f4 := x3 4 _ rfl
  clear hb1' ha kk0 kk1 kk2 t0 t1 t2 t3 x0 x1 x2 x3
  replace f0 := Lib.hid f0
  replace f1 := Lib.hid f1
  replace f2 := Lib.hid f2
  replace f3 := Lib.hid f3
  replace f4 := Lib.hid f4
  go_wp2_with fail
  refine (pparse [45, 32, 97, 10, 32, 32, 126, 126, 126, 32, 120, 10, 32, 32, 98, 10, 32, 99, 10] _ 19 _ (fresh2 _ _ _ _ _ rfl rfl) (by decide) (by decide)).mono ?_
  rintro e w2 ⟨cb, rfl, hb, hb2'⟩
  have va := var_past2 hb2' (j := 5) rfl
  have hb2' := below_past2 hb1.out hb2'
  have hb2 := Lib.hid hb2'.1
  have m12 := fun {p : Addr} {v : Value} (h : w1.cell? p = some v) => cell_mono hb2'.2 h
  replace va := Lib.hid va
  replace f0 := Lib.hid (m12 f0.out)
  replace f1 := Lib.hid (m12 f1.out)
  replace f2 := Lib.hid (m12 f2.out)
  replace f3 := Lib.hid (m12 f3.out)
  replace f4 := Lib.hid (m12 f4.out)
  rw [show Pb.tree (Pb.linesOf [45, 32, 97, 10, 32, 32, 126, 126, 126, 32, 120, 10, 32, 32, 98, 10, 32, 99, 10]) = _ from kn_b] at hb
  obtain ⟨D0, d0, rfl, -, hq0⟩ := tc_kids hb
  obtain ⟨e0, p0, rfl, qq0⟩ := hq0 (by decide)
  clear hq0
  obtain ⟨s0, u0, v0⟩ := qq0 0 (by decide)
  obtain ⟨s1, u1, v1⟩ := qq0 1 (by decide)
  obtain ⟨D1, d1, rfl, hm1, hq1⟩ := tc_kids u0
  obtain ⟨e1, p1, rfl, qq1⟩ := hq1 (by decide)
  clear hq1
  obtain ⟨s2, u2, v2⟩ := qq1 0 (by decide)
  obtain ⟨D2, d2, rfl, hm2, hq2⟩ := tc_kids u2
  obtain ⟨e2, p2, rfl, qq2⟩ := hq2 (by decide)
  clear hq2
  obtain ⟨s3, u3, v3⟩ := qq2 1 (by decide)
  obtain ⟨D3, d3, rfl, -, -⟩ := tc_kids u3
  obtain ⟨D4, d4, rfl, -, -⟩ := tc_kids u1
  have g0 := v0 5 _ rfl
  have g1 := v2 5 _ rfl
  have g2 := v3 0 _ rfl
  have g3 := v3 2 _ rfl
  have g4 := v3 3 _ rfl
  have g5 := v1 0 _ rfl
  clear hb2' m12 hb qq0 qq1 qq2 u0 u1 u2 u3 v0 v1 v2 v3
  replace g0 := Lib.hid g0
  replace g1 := Lib.hid g1
  replace g2 := Lib.hid g2
  replace g3 := Lib.hid g3
  replace g4 := Lib.hid g4
  replace g5 := Lib.hid g5
  go_wp2_with fail
  refine (pfences [97, 10, 126, 126, 126, 32, 120, 10, 98, 10, 126, 126, 126, 10, 62, 32, 126, 126, 126, 10, 126, 126, 126, 32, 121] _ 25 _ (fresh2 _ _ _ _ _ rfl rfl) (by decide) (by decide)).mono ?_
  rintro e w3 ⟨fv, rfl, hf, hb3'⟩
  have vb := var_past2 hb3' (j := 5) rfl
  have hb3' := below_past2 hb2.out hb3'
  have hb3 := Lib.hid hb3'.1
  have m23 := fun {p : Addr} {v : Value} (h : w2.cell? p = some v) => cell_mono hb3'.2 h
  replace va := Lib.hid (m23 va.out)
  replace vb := Lib.hid vb
  replace f0 := Lib.hid (m23 f0.out)
  replace f1 := Lib.hid (m23 f1.out)
  replace f2 := Lib.hid (m23 f2.out)
  replace f3 := Lib.hid (m23 f3.out)
  replace f4 := Lib.hid (m23 f4.out)
  replace g0 := Lib.hid (m23 g0.out)
  replace g1 := Lib.hid (m23 g1.out)
  replace g2 := Lib.hid (m23 g2.out)
  replace g3 := Lib.hid (m23 g3.out)
  replace g4 := Lib.hid (m23 g4.out)
  replace g5 := Lib.hid (m23 g5.out)
  rw [show (Pb.read (Pb.linesOf [97, 10, 126, 126, 126, 32, 120, 10, 98, 10, 126, 126, 126, 10, 62, 32, 126, 126, 126, 10, 126, 126, 126, 32, 121])).places = _ from kn_f] at hf
  rcases hf.2 with ⟨_, h0⟩ | ⟨g, cap, cur, hv, _, _, _⟩
  · cases h0
  subst hv
  have n0 := Lib.hid (own_cell hf (j := 7) rfl)
  have n1 := Lib.hid (own_cell hf (j := 0) rfl)
  have n2 := Lib.hid (own_cell hf (j := 5) rfl)
  have n3 := Lib.hid (own_cell hf (j := 6) rfl)
  have n4 := Lib.hid (own_cell hf (j := 15) rfl)
  have n5 := Lib.hid (own_cell hf (j := 14) rfl)
  replace va := va.out
  replace vb := vb.out
  replace f0 := f0.out
  replace f1 := f1.out
  replace f2 := f2.out
  replace f3 := f3.out
  replace f4 := f4.out
  replace g0 := g0.out
  replace g1 := g1.out
  replace g2 := g2.out
  replace g3 := g3.out
  replace g4 := g4.out
  replace g5 := g5.out
  replace n0 := n0.out
  replace n1 := n1.out
  replace n2 := n2.out
  replace n3 := n3.out
  replace n4 := n4.out
  replace n5 := n5.out
  simp only [Nat.zero_mul, Nat.one_mul, Nat.zero_add, Nat.add_zero, List.length_cons, List.length_nil, Nat.reduceAdd] at va vb f0 f1 f2 f3 f4 g0 g1 g2 g3 g4 g5 n0 n1 n2 n3 n4 n5
  clear hb3' m23 hf hl1 hl2 hm1 hm2 hb1 hb2 hb2' kc kc2
  replace f2 : w3.cell? ⟨b0, o0 + 6, none⟩ = some (.int .i64 2) := f2
  replace f3 : w3.cell? ⟨b1, o1 + 2, none⟩ = some (.string ⟨#[97, 10, 98]⟩) := f3
  replace f4 : w3.cell? ⟨b2, o2 + 10, none⟩ = some (.int .i64 4) := f4
  replace g2 : w3.cell? ⟨e2, p2 + 6, none⟩ = some (.int .i64 7) := g2
  replace g3 : w3.cell? ⟨e2, p2 + 8, none⟩ = some (.string ⟨#[98, 10]⟩) := g3
  replace g4 : w3.cell? ⟨e2, p2 + 9, none⟩ = some (.string ⟨#[120]⟩) := g4
  replace g5 : w3.cell? ⟨e0, p0 + 6, none⟩ = some (.int .i64 4) := g5
  replace n1 : w3.cell? ⟨g, 0, none⟩ = some (.int .i64 1) := n1
  replace n2 : w3.cell? ⟨g, 5, none⟩ = some (.int .i64 2) := n2
  replace n3 : w3.cell? ⟨g, 6, none⟩ = some (.int .i64 3) := n3
  replace n5 : w3.cell? ⟨g, 14, none⟩ = some (.int .i64 6) := n5
  go_upto_region 7 with fail
  refine wp_region_lit ?_
  repeat (first | refine wpList_move rfl ?_ | (refine wpList_wanted rfl ?_; intro K hK; go_simp; refine hK _ _ ?_; clear hK K))
  refine wpList_wanted rfl ?_
  intro K hK
  go_simp
  refine (pparse [] none 0 w3 Row.nil (by simp) (by simp)).mono ?_
  rintro e w4 ⟨cz, rfl, hz, hb4⟩
  rw [show Pb.tree (Pb.linesOf []) = _ from kn_nil] at hz
  obtain ⟨Az, z0, rfl, -, -⟩ := tc_kids hz
  refine hK _ _ ?_
  clear hK K hz
  repeat (first | refine wpList_move rfl ?_ | (refine wpList_wanted rfl ?_; intro K hK; go_simp; refine hK _ _ ?_; clear hK K))
  refine wpList_nil ?_
  go_wp2_with fail
  go_ret
  exact ⟨rfl, hb3.out.trans (hb4.mono hb3.out.size)⟩
end Go.Proofs.YtmbcddehacfpgaaDoor
