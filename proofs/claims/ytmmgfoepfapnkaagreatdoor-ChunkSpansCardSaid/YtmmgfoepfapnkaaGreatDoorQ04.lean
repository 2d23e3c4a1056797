/- A text made bytes. No function of the program is spoken of here. Bytes that were made of a text, and grow: their block has a mark behind its cells. No function of the program is spoken of here. -/
import Derived.Test.YtmmgfoepfapnkaaGreatDoorQ02
import Derived.Test.YtmmgfoepfapnkaaGreatDoorRows
import Derived.Lib.ConvBytes
import Derived.Laws.CopyRow
namespace Go.Proofs.YtmmgfoepfapnkaaGreatDoor
open Go.RowKit

theorem run_bytes (l : List UInt8) (w : World) :
    (convert 9 31 (.string (bs l))).run Tryz.prog w = .ok (.slice (some ⟨w.heap.size, 0, none⟩) l.length (grownCap w l.length 0 5)) (Lib.bytesWorld w 5 (bs l)) := by
  have := Lib.run_convert_string_bytes (P := Tryz.prog) w 9 31 5 (bs l) Tryz.underlying9 Tryz.underlying31 Tryz.underlying5
  rwa [bs_size] at this
theorem below_bytes (w : World) (s : ByteArray) : Below w.heap.size w (Lib.bytesWorld w 5 s) := by
  refine ⟨?_, ?_, ?_, by rw [Lib.bytesWorld_size]; omega, fun k hk => Lib.bytesWorld_at_old w _ s k hk⟩
  all_goals
    unfold Lib.bytesWorld World.freeze
    split <;> rfl
theorem row_bytes (w : World) (l : List UInt8) : Row (Lib.bytesWorld w 5 (bs l)) (Lib.bytesWorld w 5 (bs l)).heap.size 1 (some ⟨w.heap.size, 0, none⟩) l.length (bcells l) := by
  refine ⟨by simp [bcells], fun _ => ⟨w.heap.size, 0, rfl, by rw [Lib.bytesWorld_size]; omega, fun j u hu => ?_⟩⟩
  have hj : j < l.length := by have := (List.getElem?_eq_some_iff.1 hu).1; simpa [bcells] using this
  rw [Nat.zero_add, Lib.bytesWorld_cell w _ _ j (by rw [bs_size]; exact hj)]
  simp [bcells, bv, List.getElem?_eq_getElem hj] at hu
  simp [bs, List.getD, List.getElem?_eq_getElem hj, ← hu]
end Go.Proofs.YtmmgfoepfapnkaaGreatDoor

namespace Go.Proofs.YtmmgfoepfapnkaaGreatDoor
open Go.RowKit

def mk2 (cur : Array Value) (fr : Nat × Nat) : Prop := fr = (0, 0) ∨ fr = (cur.size, cur.size + 1)
theorem mk2.free {w : World} {g : Nat} {cur : Array Value} {t : TypeId} {fr : Nat × Nat} (hg : w.heap[g]? = some (.cells cur t fr)) (hm : mk2 cur fr) {j : Nat} (hj : j < cur.size) : w.frozen? ⟨g, j, none⟩ = false := by
  rcases hm with rfl | rfl
  · simp [World.frozen?, hg]
  · simp [World.frozen?, hg]; omega
theorem mk2.size {cur cur' : Array Value} {fr : Nat × Nat} (hm : mk2 cur fr) (hs : cur'.size = cur.size) : mk2 cur' fr := by
  rcases hm with h | h
  · exact .inl h
  · exact .inr (by rw [h, hs])
theorem run_store_mark (P : Program) (g o : Nat) (t : TypeId) (fr : Nat × Nat) : ∀ (vs : List Value) (i : Nat) (cur : Array Value) (w : World), w.heap[g]? = some (.cells cur t fr) → mk2 cur fr → o + i + vs.length ≤ cur.size → (∀ x ∈ vs, x.oneCell' = true) →
    (storeCells ⟨g, o, none⟩ vs i).run P w = .ok () (w.setRow g (cur.toList.take (o + i) ++ vs ++ cur.toList.drop (o + i + vs.length)).toArray)
  | [], i, cur, w, hg, _, _, _ => by
    simp only [storeCells, List.append_nil, List.length_nil, Nat.add_zero, List.take_append_drop, Array.toArray_toList]
    rw [setRow_self w g cur t fr hg]
    rfl
  | v :: rest, i, cur, w, hg, hm, hl, h1 => by
    have hi : o + i < cur.size := by simp at hl; omega
    have hadd : (⟨g, o, none⟩ : Addr).add i = ⟨g, o + i, none⟩ := by unfold Addr.add; split <;> simp_all
    have hcell : w.cell? ⟨g, o + i, none⟩ = some cur[o + i] := by simp [World.cell?, hg, hi]
    have hfro : w.frozen? ⟨g, o + i, none⟩ = false := hm.free hg hi
    have hst : (store ((⟨g, o, none⟩ : Addr).add i) v).run P w = .ok () (w.setRow g (cur.setIfInBounds (o + i) v)) := by
      rw [hadd, run_store P w _ v _ (h1 v (by simp)), hcell]
      simp [hfro, setCell_eq_setRow w g (o + i) cur t fr v hg]
    have ih := run_store_mark P g o t fr rest (i + 1) (cur.setIfInBounds (o + i) v) (w.setRow g (cur.setIfInBounds (o + i) v)) (setRow_heap w g cur _ t _ hg) (hm.size (by simp)) (by simp at hl ⊢; omega) (fun x hx => h1 x (by simp [hx]))
    simp only [storeCells, Sem.run_bind, hst, Result.andThen_ok, ih, setRow_setRow]
    congr 3
    have e := list_seg_step cur.toList (o + i) v rest (by simp at hl ⊢; omega)
    simpa [Array.toList_setIfInBounds, Nat.add_assoc] using e

/-- bytes in a block of their own, a mark behind its cells or none -/
def OwnM (w : World) (base : Nat) (e : TypeId) (v : Value) (l : List UInt8) : Prop :=
  ∃ g cap cur fr, v = .slice (some ⟨g, 0, none⟩) l.length cap ∧ base ≤ g ∧ w.heap[g]? = some (.cells cur e fr) ∧ mk2 cur fr ∧ l.length ≤ cap ∧ cap ≤ maxLen ∧ cur.size = cap ∧ cur.toList.take l.length = bcells l
theorem OwnM.lt {w : World} {base : Nat} {e : TypeId} {v : Value} {l : List UInt8} (h : OwnM w base e v l) : ∀ k, v.ownBlock = some k → base ≤ k ∧ k < w.heap.size := by
  obtain ⟨g, cap, cur, fr, rfl, hb, hg, _⟩ := h
  intro k hk
  simp [Value.ownBlock] at hk
  subst hk
  exact ⟨hb, (Array.getElem?_eq_some_iff.1 hg).1⟩
theorem OwnM.frame {w w' : World} {base : Nat} {e : TypeId} {v : Value} {l : List UInt8} (h : OwnM w base e v l) (hf : ∀ k, v.ownBlock = some k → w'.heap[k]? = w.heap[k]?) : OwnM w' base e v l := by
  obtain ⟨g, cap, cur, fr, rfl, hb, hg, hr⟩ := h
  exact ⟨g, cap, cur, fr, rfl, hb, (hf g rfl).trans hg, hr⟩
theorem OwnM.shape {w : World} {base : Nat} {e : TypeId} {v : Value} {l : List UInt8} (h : OwnM w base e v l) : ∃ A c, v = .slice A l.length c ∧ l.length ≤ c := by
  obtain ⟨g, cap, cur, fr, rfl, _, _, _, h5, _⟩ := h
  exact ⟨_, cap, rfl, h5⟩
theorem OwnM.cells {w : World} {base c : Nat} {A : Option Addr} {e : TypeId} {l : List UInt8} (h : OwnM w base e (.slice A l.length c) l) : ∃ g, A = some ⟨g, 0, none⟩ ∧ base ≤ g ∧ g < w.heap.size ∧ ∀ j u, (bcells l)[j]? = some u → w.cell? ⟨g, j, none⟩ = some u := by
  obtain ⟨g, cap, cur, fr, hv, hb, hg, _, _, _, _, ht⟩ := h
  injection hv with hA
  refine ⟨g, hA, hb, (Array.getElem?_eq_some_iff.1 hg).1, fun j u hu => ?_⟩
  rw [cell_of_row w g j cur e fr hg]
  rw [← ht, List.getElem?_take] at hu
  split at hu
  · simpa using hu
  · cases hu
theorem OwnM.row {w : World} {base c : Nat} {A : Option Addr} {e : TypeId} {l : List UInt8} (h : OwnM w base e (.slice A l.length c) l) : Row w w.heap.size 1 A l.length (bcells l) := by
  obtain ⟨g, hA, _, hg, hc⟩ := h.cells
  exact ⟨by simp [bcells], fun _ => ⟨g, 0, hA, hg, fun j u hu => by rw [Nat.zero_add]; exact hc j u hu⟩⟩
theorem OwnM.new (w : World) (e : TypeId) (l : List UInt8) (hl : l.length ≤ 1000000000000) (base : Nat) (hb : base ≤ w.heap.size) : OwnM (Lib.bytesWorld w e (bs l)) base e (.slice (some ⟨w.heap.size, 0, none⟩) l.length (grownCap w l.length 0 e)) l := by
  have hs := bs_size l
  have hge := grownCap_ge w l.length 0 e
  have hz : (Lib.bytesCells w e (bs l)).size = grownCap w l.length 0 e := by
    unfold Lib.bytesCells
    rw [hs]
    simp only [Array.size_append, Array.size_map, Array.size_replicate]
    have : (bs l).data.size = l.length := hs
    omega
  refine ⟨w.heap.size, _, _, _, rfl, hb, Lib.bytesWorld_at_new w e (bs l), .inr rfl, hge, grownCap_le_maxLen w _ _ _ (by unfold maxLen; omega), hz, ?_⟩
  unfold Lib.bytesCells
  simp only [Array.toList_append, Array.toList_map]
  have hm : (List.map (fun b : UInt8 => Value.int .u8 (b.toNat : Int)) (bs l).data.toList) = bcells l := by simp [bs, bcells, bv]
  rw [hm, List.take_left' (by simp [bcells])]

section
variable {P : Program} {w : World} {base : Nat} {T E ty : TypeId} {v : Value} {l : List UInt8}
/-- append of bytes, whichever way they come: what a text's or a row's append has in common -/
theorem app_grown {w : World} {base : Nat} {E : TypeId} {l t : List UInt8} {old : Nat} (hb : base ≤ w.heap.size) (hl : l.length + t.length ≤ 1000000000000) :
    OwnM (w.drew.alloc (.cells ((bcells l).toArray ++ (bcells t).toArray ++ Builtin.zeroCells #[.int .u8 0] (grownCap w (l.length + t.length) old E - (l.length + t.length))) E)) base E (.slice (some ⟨w.heap.size, 0, none⟩) (l.length + t.length) (grownCap w (l.length + t.length) old E)) (l ++ t) := by
  have hge := grownCap_ge w (l.length + t.length) old E
  refine ⟨w.heap.size, _, _, (0, 0), by rw [List.length_append], hb, heap_alloc_new w.drew _, .inl rfl, by rw [List.length_append]; exact hge, grownCap_le_maxLen w _ _ _ (by unfold maxLen; omega), ?_, ?_⟩
  · simp only [Array.size_append, List.size_toArray, size_zeroCells, bcells, List.length_map]
    simp
    omega
  · simp only [Array.toList_append]
    rw [List.take_left' (by simp [bcells])]
    simp [bcells]
theorem set_grown (w : World) (g : Nat) (cs : Array Value) : w.grownBy (w.setRow g cs) (some g) :=
  ⟨rfl, rfl, rfl, by simp, fun k _ hk => setRow_other w g k _ (fun e => hk (by rw [e]))⟩
theorem run_app_text (hE : EI P T E 1 1) (hEz : (P.info? E).map (fun i => i.zero) = some (some (.int .u8 0))) {U : TypeId} (hU : P.underlying U = some .string) (hown : OwnM w base E v l) (t : List UInt8) (h63 : l.length + t.length ≤ 1000000000000) (hbase : base ≤ w.heap.size) :
    ∃ v' w', (Builtin.append_ #[T, U] ty #[v, .string (bs t)]).run P w = .ok v' w' ∧ OwnM w' base E v' (l ++ t) ∧ w.grownBy w' v.ownBlock ∧ At w.heap.size v v' := by
  obtain ⟨i, z, hi, hz, hs1, hs2, hs3⟩ := hE.info
  have hzz : i.zero = some (.int .u8 0) := by rw [hi] at hEz; simpa using hEz
  have hst := bs_size t
  have hown' := hown
  obtain ⟨g, cap, cur, fr, rfl, hb, hg, hm, hc, hcm, hcs, ht⟩ := hown
  have hgl : g < w.heap.size := (Array.getElem?_eq_some_iff.1 hg).1
  have hne := hE.ht
  by_cases hroom : l.length + t.length ≤ cap
  · have hf := Lib.run_firstCells_string (P := P) w 1 (bs t)
    have hsm := run_store_mark P g l.length E fr (Lib.strCells (bs t)) 0 cur w hg hm (by rw [Lib.strCells_length, hst]; omega) (Lib.strCells_oneCell (bs t))
    simp only [Nat.add_zero, Lib.strCells_length] at hsm
    have hr2 : l.length + (bs t).size ≤ cap := by omega
    refine ⟨.slice (some ⟨g, 0, none⟩) (l.length + t.length) cap, w.setRow g (cur.toList.take l.length ++ Lib.strCells (bs t) ++ cur.toList.drop (l.length + (bs t).size)).toArray, ?_, ?_, set_grown w g _, fun k hk => .inl hk⟩
    · rw [← hst]
      simp [Builtin.append_, run_underlying hne, run_underlying hU, sizeOf, typeInfo, hi, hs1, Builtin.lenOf, hr2, hf, Addr.add_lit, hsm]
    · have hlen : (cur.toList.take l.length ++ Lib.strCells (bs t) ++ cur.toList.drop (l.length + (bs t).size)).toArray.size = cur.size := by
        simp only [List.size_toArray, List.length_append, List.length_take, List.length_drop, Array.length_toList, Lib.strCells_length]
        omega
      refine ⟨g, cap, _, fr, by rw [List.length_append], hb, setRow_heap w g cur _ E fr hg, hm.size hlen, by rw [List.length_append]; exact hroom, hcm, by rw [hlen]; exact hcs, ?_⟩
      simp only []
      rw [ht, strCells_bs, List.length_append, List.take_left' (by simp [bcells])]
      simp [bcells]
  · have hfc : ∀ j u, (bcells l)[j]? = some u → w.cell? ((⟨g, 0, none⟩ : Addr).add j) = some u := by
      intro j u hu
      obtain ⟨g', hA, _, _, hcc⟩ := hown'.cells
      injection hA with hA
      injection hA with hA
      subst hA
      have : (⟨g, 0, none⟩ : Addr).add j = ⟨g, j, none⟩ := by unfold Addr.add; split <;> simp_all
      rw [this]; exact hcc j u hu
    have hr := Lib.run_append_grow_string (P := P) w T U ty E i (.int .u8 0) hne hU hi hzz ⟨g, 0, none⟩ l.length cap (bcells l) (by simp [bcells, hs1]) hfc (bs t) (by omega) (by rw [hst]; omega) (growslice_fits (by omega) (by rw [hst, hs2]; omega))
    have hgo := app_grown (w := w) (base := base) (E := E) (l := l) (t := t) (old := cap) hbase h63
    rw [hst, strCells_bs] at hr
    refine ⟨_, _, hr, hgo, ⟨rfl, rfl, rfl, by simp, fun k hk _ => Below.heap_alloc w.drew _ k hk⟩, fun k hk => ?_⟩
    simp [Value.ownBlock] at hk
    exact .inr (by omega)
theorem run_app_mrow (hE : EI P T E 1 1) (hEz : (P.info? E).map (fun i => i.zero) = some (some (.int .u8 0))) (hown : OwnM w base E v l) (t : List UInt8) {b o m : Nat} (hnc : ∀ j u, (bcells t)[j]? = some u → w.cell? ⟨b, o + j, none⟩ = some u) (h63 : l.length + t.length ≤ 1000000000000) (hbase : base ≤ w.heap.size) :
    ∃ v' w', (Builtin.append_ #[T, T] ty #[v, .slice (some ⟨b, o, none⟩) t.length m]).run P w = .ok v' w' ∧ OwnM w' base E v' (l ++ t) ∧ w.grownBy w' v.ownBlock ∧ At w.heap.size v v' := by
  obtain ⟨i, z, hi, hz, hs1, hs2, hs3⟩ := hE.info
  have hzz : i.zero = some (.int .u8 0) := by rw [hi] at hEz; simpa using hEz
  have hown' := hown
  obtain ⟨g, cap, cur, fr, rfl, hb, hg, hm, hc, hcm, hcs, ht⟩ := hown
  have hnews : ∀ j u, (bcells t)[j]? = some u → w.cell? ((⟨b, o, none⟩ : Addr).add j) = some u := by
    intro j u hu
    have : (⟨b, o, none⟩ : Addr).add j = ⟨b, o + j, none⟩ := by unfold Addr.add; split <;> simp_all
    rw [this]; exact hnc j u hu
  have hl1 : (bcells t).length = t.length * i.size := by rw [hs1]; simp [bcells]
  have hone : ∀ u ∈ bcells t, u.oneCell' = true := by intro u hu; simp only [bcells, List.mem_map] at hu; obtain ⟨b, _, rfl⟩ := hu; rfl
  have hbl : (bcells t).length = t.length := by simp [bcells]
  have hne := hE.ht
  by_cases hroom : l.length + t.length ≤ cap
  · have hf := run_firstCells_some (P := P) w i.size t.length ⟨b, o, none⟩ t.length m (bcells t) hl1 hnews
    have hsm := run_store_mark P g l.length E fr (bcells t) 0 cur w hg hm (by rw [hbl]; omega) hone
    simp only [Nat.add_zero] at hsm
    rw [hs1] at hf
    refine ⟨.slice (some ⟨g, 0, none⟩) (l.length + t.length) cap, w.setRow g (cur.toList.take l.length ++ bcells t ++ cur.toList.drop (l.length + (bcells t).length)).toArray, ?_, ?_, set_grown w g _, fun k hk => .inl hk⟩
    · simp [Builtin.append_, run_underlying hne, sizeOf, typeInfo, hi, hs1, Builtin.lenOf, hroom, hf, Addr.add_lit, hsm]
    · have hlen : (cur.toList.take l.length ++ bcells t ++ cur.toList.drop (l.length + (bcells t).length)).toArray.size = cur.size := by
        simp only [List.size_toArray, List.length_append, List.length_take, List.length_drop, Array.length_toList, hbl]
        omega
      refine ⟨g, cap, _, fr, by rw [List.length_append], hb, setRow_heap w g cur _ E fr hg, hm.size hlen, by rw [List.length_append]; exact hroom, hcm, by rw [hlen]; exact hcs, ?_⟩
      simp only []
      rw [ht, List.length_append, List.take_left' (by simp [bcells])]
      simp [bcells]
  · have hfc : ∀ j u, (bcells l)[j]? = some u → w.cell? ((⟨g, 0, none⟩ : Addr).add j) = some u := by
      intro j u hu
      obtain ⟨g', hA, _, _, hcc⟩ := hown'.cells
      injection hA with hA
      injection hA with hA
      subst hA
      have : (⟨g, 0, none⟩ : Addr).add j = ⟨g, j, none⟩ := by unfold Addr.add; split <;> simp_all
      rw [this]; exact hcc j u hu
    have hra := run_append_grow (P := P) w T ty E i (.int .u8 0) hne hi hzz ⟨g, 0, none⟩ l.length cap (bcells l) (by simp [bcells, hs1]) hfc ⟨b, o, none⟩ t.length m (bcells t) hl1 hnews (by omega) (by omega) (growslice_fits (by omega) (by rw [hs2]; omega))
    have hgo := app_grown (w := w) (base := base) (E := E) (l := l) (t := t) (old := cap) hbase h63
    refine ⟨_, _, hra, hgo, ⟨rfl, rfl, rfl, by simp, fun k hk _ => Below.heap_alloc w.drew _ k hk⟩, fun k hk => ?_⟩
    simp [Value.ownBlock] at hk
    exact .inr (by omega)
end
/-- append of a text's bytes -/
theorem wpList_app_mark {P : Program} {w : World} {ops : Array Oper} {rest : List Oper} {o : Oper} {a : Act} {Q : Exit → Act → World → Prop} (hgd : o.guard = none) (s x : Operand) {T U : TypeId}
    (ho : o.op = .call { callee := .builtin .append, args := #[s, x], argTypes := #[T, U] })
    {E : TypeId} (hE : EI P T E 1 1) (hEz : (P.info? E).map (fun i => i.zero) = some (some (.int .u8 0))) (hU : P.underlying U = some .string) {base : Nat} {v : Value} {l : List UInt8} (hs : a.eval s = v) (hown : OwnM w base E v l)
    {t : List UInt8} (hx : a.eval x = .string (bs t)) (h63 : l.length + t.length ≤ 1000000000000) (hbase : base ≤ w.heap.size)
    (h : ∀ v' w', OwnM w' base E v' (l ++ t) → Hid (w.grownBy w' v.ownBlock) → Hid (At w.heap.size v v') → wpList P ops Q rest (a.put o.dst v') w') :
    wpList P ops Q (o :: rest) a w := by
  obtain ⟨v', w', hrun, h2, h3, h4⟩ := run_app_text (ty := o.type) hE hEz hU hown t h63 hbase
  refine wpList_plain hgd fun K hK => ?_
  unfold Oper.wp execOp
  simp only [ho, resolve, invoke, builtin, Sem.run_bind, Sem.run_pure, Result.andThen_ok, List.map_toArray, List.map_cons, List.map_nil, hs, hx, hrun]
  exact hK _ _ (h v' w' h2 h3 h4)
end Go.Proofs.YtmmgfoepfapnkaaGreatDoor
