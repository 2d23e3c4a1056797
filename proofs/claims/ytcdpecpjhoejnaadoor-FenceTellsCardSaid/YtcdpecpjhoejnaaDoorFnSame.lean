/- 'same': the program's answers and the document's own are the same, for any line and any row of texts. -/
import Derived.Test.YtcdpecpjhoejnaaDoorFnKnown
import Derived.Test.YtcdpecpjhoejnaaDoorCanon
namespace Go.Proofs.YtcdpecpjhoejnaaDoor
open Go.RowKit
attribute [local go_sem] canOp readsAs readUpon

theorem own_lit1 (w : World) (T : TypeId) (x : Value) : (w.alloc (.cells #[x] T)).ownsRow w.heap.size T 1 (.slice (some ⟨w.heap.size, 0, none⟩) 1 1) 1 [x] :=
  ⟨rfl, .inr ⟨w.heap.size, 1, #[x], rfl, Nat.le_refl _, heap_alloc_new w _, Nat.le_refl _, by unfold maxLen; omega, rfl, rfl⟩⟩

/-- append of a row of texts, nil or not, to one text, up to the very bound of memory -/
theorem wpList_app_big {P : Program} {w : World} {ops : Array Oper} {rest : List Oper} {o : Oper} {a : Act} {Q : Exit → Act → World → Prop} (hgd : o.guard = none) (s x : Operand) {T : TypeId}
    (ho : o.op = .call { callee := .builtin .append, args := #[s, x], argTypes := #[T, T] })
    {E : TypeId} {size bytes : Nat} (hE : EI P T E size bytes) (hb1 : bytes ≤ 100) {base : Nat} {v : Value} {xs : List Value} (hs : a.eval s = v) (hown : w.ownsRow base E size v 1 xs)
    {B m c : Nat} {A : Option Addr} {news : List Value} (hx : a.eval x = .slice A m c) (hr : Row w B size A m news) (h1 : ∀ u ∈ news, u.oneCell' = true) (h63 : 1 + m ≤ maxLen) (hbytes : (1 + m) * bytes ≤ 140737488355328) (hbase : base ≤ w.heap.size)
    (h : ∀ v' w', w'.ownsRow base E size v' (1 + m) (xs ++ news) → Below base w w' → wpList P ops Q rest (a.put o.dst v') w') : wpList P ops Q (o :: rest) a w := by
  have hrun : ∃ v' w', (Builtin.append_ #[T, T] o.type #[v, .slice A m c]).run P w = .ok v' w' ∧ w'.ownsRow base E size v' (1 + m) (xs ++ news) ∧ w.grownBy w' v.ownBlock := by
    rcases Nat.eq_zero_or_pos m with h0 | h0
    · subst h0
      exact run_app_row hE hown hr h1 (by omega) hb1 hbase
    · obtain ⟨i, z, hi, hz, hs1, hs2, hs3⟩ := hE.info
      obtain ⟨b, o', rfl, _, hc⟩ := hr.2 h0
      have hcell : ∀ j u, news[j]? = some u → w.cell? ((⟨b, o', none⟩ : Addr).add j) = some u := by
        intro j u hu
        have : (⟨b, o', none⟩ : Addr).add j = ⟨b, o' + j, none⟩ := by unfold Addr.add; split <;> simp_all
        rw [this]; exact hc j u hu
      obtain ⟨v', w', h2, h3, h4, _⟩ := run_append_own (P := P) w base T o.type E i z size bytes hE.ht hi hz hs1 hs2 hs3 hE.pos v 1 xs hown ⟨b, o', none⟩ m c news hr.1 hcell h1 h63 hbytes hbase
      exact ⟨v', w', h2, h3, h4⟩
  obtain ⟨v', w', h2, h3, h4⟩ := hrun
  refine wpList_plain hgd fun _ hK => ?_
  unfold Oper.wp execOp
  simp only [ho, resolve, invoke, builtin, Sem.run_bind, Sem.run_pure, Result.andThen_ok, List.map_toArray, List.map_cons, List.map_nil, hs, hx, h2]
  exact hK _ _ (h v' w' h3 (below_grown (Below.refl _ _) hown (Below.refl _ _) h4 hbase))

theorem textEI : EI Tryd.prog 25 9 1 16 := EI.mk' Tryd.underlying25 (z := .string .empty) (by kernel_rfl) rfl (by omega)

/-- a row of texts appended to one text that was laid in a new block -/
theorem wpList_app_texts {w : World} {ops : Array Oper} {rest : List Oper} {o : Oper} {a : Act} {Q : Exit → Act → World → Prop} (l : List UInt8) (ls ts : List (List UInt8)) (hts : ts = l :: ls) (hgd : o.guard = none) (s x : Operand) {T : TypeId}
    (ho : o.op = .call { callee := .builtin .append, args := #[s, x], argTypes := #[T, T] }) (hE : EI Tryd.prog T 9 1 16)
    {B c g : Nat} {A : Option Addr} (hs : a.eval s = .slice (some ⟨g, 0, none⟩) 1 1) (hg : g = w.heap.size) (hx : a.eval x = .slice A ls.length c) (hr : Row w B 1 A ls.length (scells ls)) (hB : B ≤ w.heap.size) (hbytes : (1 + ls.length) * 16 ≤ 140737488355328)
    (h : ∀ A' c' w', Row w' w'.heap.size 1 A' ts.length (scells ts) → Below w.heap.size w w' → wpList Tryd.prog ops Q rest (a.put o.dst (.slice A' ts.length c')) w') :
    wpList Tryd.prog ops Q (o :: rest) a (w.alloc (.cells #[.string (bs l)] 9)) := by
  subst hts hg
  have h1 : 1 + ls.length = (l :: ls).length := by simp; omega
  refine wpList_app_big hgd s x ho hE (by omega) hs (own_lit1 w 9 _) hx (hr.alloc hB _) (scells_one _) (by unfold maxLen; omega) hbytes (by simp) ?_
  intro v' w' hown hb
  rw [h1] at hown
  obtain ⟨A', c', rfl, hc⟩ := own_shape hown
  exact h A' c' w' (Row.own hown) ((ext_alloc _ _).trans hb)

/-- a read of memory, which is the same in every world that may come -/
theorem wpCan_read {P : Program} {ops : Array Oper} {Q : Exit → Act → World → Prop} {S : World → Prop} {i : Nat} {r : List (Bool × Nat)} {a : Act} {w : World} {o : Oper} (v : Value)
    (ho : ops[i]? = some o) (hg : Region.wanted o (yielded ops a.tmps) = true) (hS : S w) (hv : ∀ u, S u → (execOp a.eval o).run P u = .ok (.value v) u)
    (h : wpCan P ops Q r S (a.put o.dst v) w) : wpCan P ops Q ((true, i) :: r) S a w :=
  ⟨o, ho, by
    unfold canOp
    rw [if_pos hg, if_pos rfl]
    exact ⟨v, by rw [hv w hS]; exact ⟨rfl, rfl⟩, fun u hu => by rw [hv u hu]; exact ⟨rfl, rfl⟩, h⟩⟩

theorem begv_some (o : Option Fn.Op) : ∃ (x : UInt8) (n i : Nat) (I : List UInt8) (b : Bool), begv o = .tuple #[.agg #[.int .u8 (x.toNat : Int), .int .i64 (n : Int), .int .i64 (i : Int), .string (bs I)], .bool b] := by
  rcases o with _ | o
  · exact ⟨0, 0, 0, [], false, rfl⟩
  · exact ⟨o.c, o.n, o.ind, o.info, true, rfl⟩

set_option maxHeartbeats 4000000 in
set_option maxRecDepth 100000 in
theorem same_any (l : List UInt8) (ls : List (List UInt8)) (A : Option Addr) (c : Nat) (w : World) (h : Row w w.heap.size 1 A ls.length (scells ls))
    (hl : l.length ≤ 140737488355328) (hn : (1 + ls.length) * 16 ≤ 140737488355328) (hls : ∀ s ∈ ls, s.length ≤ 140737488355328) :
    Calls Tryd.prog 8 #[.string (bs l), .slice A ls.length c] w fun e w' => e = .returned (.bool true) ∧ Below w.heap.size w w' := by
  have hR := Lib.hid h
  clear h
  have q1 := fun w => begins_any l w hl
  have q2 := fun w => rbegins_any l w hl
  obtain ⟨x, n, i, I, b, hv⟩ := begv_some (Fn.begins l)
  rw [hv] at q1 q2
  have hII := bs_eq (rfl : I = I)
  clear hv
  go_enter Tryd.func8, Tryd.ntmps8
  go_wp2_with fail
  refine (q1 _).mono ?_
  rintro e w1 ⟨rfl, hb1⟩
  replace hb1 := Lib.hid hb1
  go_wp2_with fail
  refine (q2 _).mono ?_
  rintro e w2 ⟨rfl, hb2⟩
  have f2 := Lib.hid (blk hb2)
  have g2 := (keep (heap_alloc_new w1 _) hb2).2
  replace hb2 := Lib.hid (ext_trans hb1.out (ext_trans (ext_alloc _ _) hb2))
  obtain ⟨a0, a1, a2, a3⟩ := four f2.out
  obtain ⟨ts, hts⟩ : ∃ ts, ts = l :: ls := ⟨_, rfl⟩
  replace hts := Lib.hid hts
  have hRd := fun o => hR.out.ext (ext_trans hb2.out (ext_alloc w2 o))
  replace hRd := Lib.hid hRd
  go_wp2_with (at_builtin; refine wpList_app_texts l ls ts hts.out rfl (.tmp 53) (.tmp 54) rfl textEI rfl (by simp) rfl (hRd.out _) (Nat.le_refl _) hn ?_; intro A3 c3 w3 hR3 hb3)
  have f3 := Lib.hid (keep f2.out (ext_trans (ext_alloc _ _) hb3)).1
  have p3 := Lib.hid (blk hb3)
  have hb3' := Lib.hid (ext_trans hb2.out (ext_trans (ext_alloc _ _) hb3))
  replace hR3 := Lib.hid hR3
  have htl : ts.length ≤ ls.length + 1 := by rw [hts.out]; exact Nat.le_refl _
  have hts2 : ∀ t ∈ ts, t.length ≤ 140737488355328 := by
    intro t ht
    rw [hts.out] at ht
    rcases List.mem_cons.1 ht with rfl | ht
    · exact hl
    · exact hls t ht
  clear hb3 hRd hts a0 a1 a2 a3 f2 g2
  go_loopw [57] (fun v wr => ∃ k : Nat, k ≤ ts.length ∧ v = .int .i64 k ∧ Below w3.heap.size w3 wr) (fun v _ => ts.length - (intOf v).toNat)
  case atStart => exact ⟨0, by omega, rfl, Below.refl _ _⟩
  case round =>
    obtain ⟨k, hk, rfl, hb⟩ := hrel
    by_cases hlt : k < ts.length
    · obtain ⟨bb, oo, rfl, hbb, hc⟩ := text_cell hR3.out (by omega)
      have hx : wr.cell? ⟨bb, oo + k, none⟩ = some (.string (bs ts[k])) := (hb.cell hbb).trans (hc k hlt)
      clear hc
      have htk := hts2 _ (List.getElem_mem hlt)
      have e1 := fun w => ends_any x n i (bs I) ts[k] w htk
      have e2 := fun w => rends_any x n i (bs I) ts[k] w htk
      unfold fv at e1 e2
      obtain ⟨t, ht⟩ : ∃ t, ts[k] = t := ⟨_, rfl⟩
      obtain ⟨E, hE⟩ : ∃ E, Fn.ends x n t = E := ⟨_, rfl⟩
      rw [ht] at hx e1 e2
      rw [hE] at e1 e2
      have f4 := Lib.hid (keep f3.out hb).1
      have p4 := Lib.hid (keep p3.out hb).1
      clear ht hE htk
      have r4 : ∀ u, Ext wr.drew u → u.cell? ⟨w1.heap.size, 0, none⟩ = some (.int .u8 (x.toNat : Int)) ∧ u.cell? ⟨w1.heap.size, 1, none⟩ = some (.int .i64 n) ∧ u.cell? ⟨w1.heap.size, 2, none⟩ = some (.int .i64 i) ∧ u.cell? ⟨w1.heap.size, 3, none⟩ = some (.string (bs I)) :=
        fun u hu => four (keep (w := wr.drew) f4.out hu).1
      have r5 : ∀ u, Ext wr.drew u → u.cell? ⟨w2.heap.size, 0, none⟩ = some (.int .u8 (x.toNat : Int)) ∧ u.cell? ⟨w2.heap.size, 1, none⟩ = some (.int .i64 n) ∧ u.cell? ⟨w2.heap.size, 2, none⟩ = some (.int .i64 i) ∧ u.cell? ⟨w2.heap.size, 3, none⟩ = some (.string (bs I)) :=
        fun u hu => four (keep (w := wr.drew) p4.out hu).1
      replace r4 := Lib.hid r4
      replace r5 := Lib.hid r5
      go_wp2
      refine wp_region_can [(true, 0), (true, 1), (true, 3), (true, 4), (false, 2), (false, 5), (true, 6)] (Ext _) (Ext.refl _) (by kernel_rfl) (by kernel_rfl) (by kernel_rfl) (fun _ _ d _ _ h => by cases d <;> exact h) ?_
      refine wpCan_read (.agg #[.int .u8 (x.toNat : Int), .int .i64 n, .int .i64 i, .string (bs I)]) rfl rfl (Ext.refl _) (fun u hu => by obtain ⟨z0, z1, z2, z3⟩ := r4.out u hu; go_simp) ?_
      refine wpCan_move rfl ?_
      refine wpCan_read (.agg #[.int .u8 (x.toNat : Int), .int .i64 n, .int .i64 i, .string (bs I)]) rfl rfl (Ext.refl _) (fun u hu => by obtain ⟨z0, z1, z2, z3⟩ := r5.out u hu; go_simp) ?_
      refine wpCan_move rfl ?_
      refine wpCan_cons rfl ?_
      intro K hK
      go_simp
      refine (e1 _).mono ?_
      rintro e w4 ⟨rfl, hb4⟩
      refine can_ext hb4 (hK _ _ _ ?_)
      clear hK K
      refine wpCan_cons rfl ?_
      intro K hK
      go_simp
      refine (e2 _).mono ?_
      rintro e w5 ⟨rfl, hb5⟩
      refine can_ext hb5 (hK _ _ _ ?_)
      clear hK K
      refine wpCan_cons rfl ?_
      intro K hK
      go_simp
      refine hK _ _ _ ?_
      clear hK K
      refine wpCan_nil ?_
      have hb6 := Lib.hid (ext_trans hb (ext_trans (ext_drew _) (ext_trans hb4 hb5)))
      clear hb4 hb5
      go_wp2
      go_roundw
      case rel => exact ⟨k + 1, by omega, by go_num, hb6.out⟩
      case measure => simp [intOf]; omega
    · have hls2 := hls
      have hRf := hR.out.ext (ext_trans hb3'.out hb)
      have l1 := fun w h => long_any ls A c w h (by omega) hls
      have l2 := fun w h => rlong_any ls A c w h (by omega) hls
      obtain ⟨M, hM⟩ : ∃ M, Fn.long ls = M := ⟨_, rfl⟩
      rw [hM] at l1 l2
      clear hM
      replace hRf := Lib.hid hRf
      go_wp2_with fail
      refine (l1 _ hRf.out).mono ?_
      rintro e w' ⟨rfl, rfl⟩
      go_wp2_with fail
      refine (l2 _ hRf.out).mono ?_
      rintro e w6 ⟨rfl, hb6⟩
      replace hb6 := Lib.hid (ext_trans (ext_trans hb3'.out hb) hb6)
      go_wp2
      go_returns
      exact ⟨by simp, hb6.out⟩
end Go.Proofs.YtcdpecpjhoejnaaDoor
