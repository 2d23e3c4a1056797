/- The program's reader of blocks: the open leaf is closed. The program's reader of blocks: an open paragraph is closed. The program's reader of blocks: where a fence lies. The program's reader of blocks: an open fence is closed. The program's reader of blocks: sizes; a container that is taken out of the row. The program's reader of blocks: containers are closed down to a number of them. The program's reader of blocks: how far a line goes through the row; what it begins. The program's reader of blocks: a line goes through the row. The program's reader of blocks: containers that begin. Where fences lie: within the lines that were read, one behind the other; how long their infos are. No program is spoken of here. The program's reader of blocks: leaves that begin, and go on, as they lie in memory. The program's reader of blocks: what a line is, behind its containers. The program's reader of blocks: text that goes on, and text that begins. The program's reader of blocks: a line. -/
import Derived.Test.YtmmgfoepfapnkaaGreatDoorQ11
import Derived.Test.YtmmgfoepfapnkaaGreatDoorQ19
import Derived.Test.YtmmgfoepfapnkaaGreatDoorQ20
namespace Go.Proofs.YtmmgfoepfapnkaaGreatDoor
open Go.RowKit
attribute [local go_sem] canOp readsAs readUpon

section
variable {w w' : World} {B R : Nat} {E : Nat → Option Part} {rv lv pv : Value} {M : Mm} {x : MC} {row o : List MC} {l : Pb.Of} {ps : List Bk.Pl}
/-- the leaf's cells are written -/
abbrev set8 (w : World) (R : Nat) (a1 a2 a3 a4 a5 a6 a7 a8 : Value) : World := (((((((w.setCell ⟨R, 1, none⟩ a1).setCell ⟨R, 2, none⟩ a2).setCell ⟨R, 3, none⟩ a3).setCell ⟨R, 4, none⟩ a4).setCell ⟨R, 5, none⟩ a5).setCell ⟨R, 6, none⟩ a6).setCell ⟨R, 7, none⟩ a7).setCell ⟨R, 8, none⟩ a8
theorem set8_below {w0 : World} (hb : Below B w0 w) (hR : B ≤ R) (a1 a2 a3 a4 a5 a6 a7 a8 : Value) : Below B w0 (set8 w R a1 a2 a3 a4 a5 a6 a7 a8) :=
  (((((((hb.setCell (p := ⟨R, 1, none⟩) hR _).setCell (p := ⟨R, 2, none⟩) hR _).setCell (p := ⟨R, 3, none⟩) hR _).setCell (p := ⟨R, 4, none⟩) hR _).setCell (p := ⟨R, 5, none⟩) hR _).setCell (p := ⟨R, 6, none⟩) hR _).setCell (p := ⟨R, 7, none⟩) hR _).setCell (p := ⟨R, 8, none⟩) hR _
theorem set8_at {z0 z1 z2 z3 z4 z5 z6 z7 z8 z9 : Value} {t : TypeId} (h : w.heap[R]? = some (.cells #[z0, z1, z2, z3, z4, z5, z6, z7, z8, z9] t (0, 0))) (a1 a2 a3 a4 a5 a6 a7 a8 : Value) : (set8 w R a1 a2 a3 a4 a5 a6 a7 a8).heap[R]? = some (.cells #[z0, a1, a2, a3, a4, a5, a6, a7, a8, z9] t (0, 0)) := by
  unfold set8
  have h1 : (w.setCell ⟨R, 1, none⟩ a1).heap[R]? = some (.cells #[z0, a1, z2, z3, z4, z5, z6, z7, z8, z9] t (0, 0)) := heap_setCell_same w R 1 _ t a1 h
  generalize hw1 : (w.setCell ⟨R, 1, none⟩ a1) = w1 at h1 ⊢
  have h2 : (w1.setCell ⟨R, 2, none⟩ a2).heap[R]? = some (.cells #[z0, a1, a2, z3, z4, z5, z6, z7, z8, z9] t (0, 0)) := heap_setCell_same w1 R 2 _ t a2 h1
  generalize hw2 : (w1.setCell ⟨R, 2, none⟩ a2) = w2 at h2 ⊢
  have h3 : (w2.setCell ⟨R, 3, none⟩ a3).heap[R]? = some (.cells #[z0, a1, a2, a3, z4, z5, z6, z7, z8, z9] t (0, 0)) := heap_setCell_same w2 R 3 _ t a3 h2
  generalize hw3 : (w2.setCell ⟨R, 3, none⟩ a3) = w3 at h3 ⊢
  have h4 : (w3.setCell ⟨R, 4, none⟩ a4).heap[R]? = some (.cells #[z0, a1, a2, a3, a4, z5, z6, z7, z8, z9] t (0, 0)) := heap_setCell_same w3 R 4 _ t a4 h3
  generalize hw4 : (w3.setCell ⟨R, 4, none⟩ a4) = w4 at h4 ⊢
  have h5 : (w4.setCell ⟨R, 5, none⟩ a5).heap[R]? = some (.cells #[z0, a1, a2, a3, a4, a5, z6, z7, z8, z9] t (0, 0)) := heap_setCell_same w4 R 5 _ t a5 h4
  generalize hw5 : (w4.setCell ⟨R, 5, none⟩ a5) = w5 at h5 ⊢
  have h6 : (w5.setCell ⟨R, 6, none⟩ a6).heap[R]? = some (.cells #[z0, a1, a2, a3, a4, a5, a6, z7, z8, z9] t (0, 0)) := heap_setCell_same w5 R 6 _ t a6 h5
  generalize hw6 : (w5.setCell ⟨R, 6, none⟩ a6) = w6 at h6 ⊢
  have h7 : (w6.setCell ⟨R, 7, none⟩ a7).heap[R]? = some (.cells #[z0, a1, a2, a3, a4, a5, a6, a7, z8, z9] t (0, 0)) := heap_setCell_same w6 R 7 _ t a7 h6
  generalize hw7 : (w6.setCell ⟨R, 7, none⟩ a7) = w7 at h7 ⊢
  have h8 : (w7.setCell ⟨R, 8, none⟩ a8).heap[R]? = some (.cells #[z0, a1, a2, a3, a4, a5, a6, a7, a8, z9] t (0, 0)) := heap_setCell_same w7 R 8 _ t a8 h7
  exact h8
theorem set8_grown (a1 a2 a3 a4 a5 a6 a7 a8 : Value) : w.grownBy (set8 w R a1 a2 a3 a4 a5 a6 a7 a8) (some R) :=
  (((((((grown_set w ⟨R, 1, none⟩ a1).trans (grown_set _ ⟨R, 2, none⟩ a2)).trans (grown_set _ ⟨R, 3, none⟩ a3)).trans (grown_set _ ⟨R, 4, none⟩ a4)).trans (grown_set _ ⟨R, 5, none⟩ a5)).trans (grown_set _ ⟨R, 6, none⟩ a6)).trans (grown_set _ ⟨R, 7, none⟩ a7)).trans (grown_set _ ⟨R, 8, none⟩ a8)
/-- another leaf, whose lines lie elsewhere -/
theorem leaf_set (h : PAt w B E R rv lv pv M row l ps) (l' : Pb.Of) {lv' : Value} (hl : l'.lines = []) (hlv : lv' = .slice none 0 0) :
    PAt (set8 w R (.int .i64 (l'.kind : Int)) (.int .i64 (l'.line : Int)) lv' (.int .u8 (l'.op.c.toNat : Int)) (.int .i64 (l'.op.n : Int)) (.int .i64 (l'.op.ind : Int)) (.string (bs l'.op.info)) (.bool l'.ended)) B E R rv lv' pv M row l' ps := by
  obtain ⟨hR1, _, hRh⟩ := h.hp.base (k := .rd) rfl
  have m8 := h.hp.uput (k := .rd) (.blk R ⟨rdCells rv lv' pv l'⟩ 138) rfl (set8_grown (.int .i64 (l'.kind : Int)) (.int .i64 (l'.line : Int)) lv' (.int .u8 (l'.op.c.toNat : Int)) (.int .i64 (l'.op.n : Int)) (.int .i64 (l'.op.ind : Int)) (.string (bs l'.op.info)) (.bool l'.ended)) ⟨hR1, set8_at hRh _ _ _ _ _ _ _ _⟩ (fun _ e => .inl e)
  refine ⟨m8.turn id (fun _ _ _ _ _ _ e => e) (fun k a hk => ?_), h.good, h.old⟩
  cases k with
  | rd => exact ⟨a, hk, m8.holds .rd a hk, fun _ e => e⟩
  | row => exact ⟨a, hk, m8.holds .row a hk, fun _ e => e⟩
  | kid i => exact ⟨a, hk, m8.holds (.kid i) a hk, fun _ e => e⟩
  | itm i => exact ⟨a, hk, m8.holds (.itm i) a hk, fun _ e => e⟩
  | pls => exact ⟨a, hk, m8.holds .pls a hk, fun _ e => e⟩
  | old i => exact ⟨a, hk, m8.holds (.old i) a hk, fun _ e => e⟩
  | ext i => exact ⟨a, hk, m8.holds (.ext i) a hk, fun _ e => e⟩
  | lns =>
    refine ⟨_, rfl, ?_, ?_⟩
    · have : (Part.row 9 1 lv' l'.lines.length (scells l'.lines)) = a := Option.some.inj hk
      subst this
      rw [hl, hlv]
      exact World.ownsRow_nil _ _ _ _
    · intro g hg
      have : (Part.row 9 1 lv' l'.lines.length (scells l'.lines)) = a := Option.some.inj hk
      subst this
      rw [hlv] at hg
      cases hg
end
/-- the leaf's eight cells, in a block -/
abbrev lfArr (lv : Value) (l : Pb.Of) : Array Value := #[.int .i64 (l.kind : Int), .int .i64 (l.line : Int), lv, .int .u8 (l.op.c.toNat : Int), .int .i64 (l.op.n : Int), .int .i64 (l.op.ind : Int), .string (bs l.op.info), .bool l.ended]

set_option maxHeartbeats 1000000 in
set_option maxRecDepth 100000 in
theorem pcl_none (w : World) (B : Nat) (E : Nat → Option Part) (R : Nat) (rv lv pv : Value) (M : Mm) (row : List MC) (l : Pb.Of) (ps : List Bk.Pl) (h : PAt w B E R rv lv pv M row l ps) (h4 : l.kind ≠ 4) (h7 : l.kind ≠ 7) :
    Calls Tryz.prog 123 #[adr R] w fun e w' => e = .returned (.tuple #[]) ∧ PAt w' B E R rv (.slice none 0 0) pv M row Pb.noLeaf ps ∧ Below B w w' := by
  obtain ⟨hR1, hR2, hfr, c0, c1, c2, c3, c4, c5, c6, c7, c8, c9⟩ := rd_facts h
  have hlo := h.hp.own (k := .lns) rfl
  obtain ⟨lA, lc, hlv, hlc⟩ := own_shape hlo
  rw [hlv] at c3
  have t4 : ((l.kind : Int) == 4) = false := by rw [beq_eq_false_iff_ne]; omega
  have t7 : ((l.kind : Int) == 7) = false := by rw [beq_eq_false_iff_ne]; omega
  have hA0 := leaf_set h Pb.noLeaf (lv' := .slice none 0 0) rfl rfl
  have hB0 := set8_below (Below.refl B w) hR1 (.int .i64 (Pb.noLeaf.kind : Int)) (.int .i64 (Pb.noLeaf.line : Int)) (.slice none 0 0) (.int .u8 (Pb.noLeaf.op.c.toNat : Int)) (.int .i64 (Pb.noLeaf.op.n : Int)) (.int .i64 (Pb.noLeaf.op.ind : Int)) (.string (bs Pb.noLeaf.op.info)) (.bool Pb.noLeaf.ended)
  have hA := fun (o : Obj) => PAt.mk (hA0.hp.ext (ext_alloc _ o)) hA0.good hA0.old
  have hB := fun (o : Obj) => hB0.trans ((ext_alloc _ o).mono (by have := hB0.size; omega))
  clear hA0 hB0
  replace hA := Lib.hid hA
  replace hB := Lib.hid hB
  replace h := Lib.hid h
  replace hlv := Lib.hid hlv
  clear hlo c0 c9
  go_enter Tryz.func123, Tryz.ntmps123
  go_wp2_with fail
  go_returns
  exact ⟨rfl, hA.out _, hB.out _⟩
end Go.Proofs.YtmmgfoepfapnkaaGreatDoor

namespace Go.Proofs.YtmmgfoepfapnkaaGreatDoor
open Go.RowKit
attribute [local go_sem] canOp readsAs readUpon

section
variable {w : World} {B R : Nat} {E : Nat → Option Part} {rv lv pv : Value} {M : Mm} {row : List MC} {l : Pb.Of} {ps : List Bk.Pl}
/-- the leaf is taken out: what lies then -/
theorem leaf_out (h : PAt w B E R rv lv pv M row l ps) : ∃ wq lA lc, lv = .slice lA l.lines.length lc ∧ l.lines.length ≤ lc ∧
    (set8 w R (.int .i64 0) (.int .i64 0) (.slice none 0 0) (.int .u8 0) (.int .i64 0) (.int .i64 0) (.string ⟨#[]⟩) (.bool false)).alloc (.cells (lfArr lv l) 136) = wq ∧
    PAt wq B (shiftE (.blk w.heap.size (lfArr lv l) 136) E) R rv (.slice none 0 0) pv M row Pb.noLeaf ps ∧ Below B w wq ∧ wq.heap.size = w.heap.size + 1 ∧ Row wq wq.heap.size 1 lA l.lines.length (scells l.lines) ∧
    wq.heap[w.heap.size]? = some (.cells (lfArr lv l) 136 (0, 0)) := by
  obtain ⟨hR1, hR2, _⟩ := rd_facts h
  have hlo := h.hp.own (k := .lns) rfl
  obtain ⟨lA, lc, hlv, hlc⟩ := own_shape hlo
  have hA0 := leaf_set h Pb.noLeaf (lv' := .slice none 0 0) rfl rfl
  have hB0 := set8_below (Below.refl B w) hR1 (.int .i64 0) (.int .i64 0) (.slice none 0 0) (.int .u8 0) (.int .i64 0) (.int .i64 0) (.string ⟨#[]⟩) (.bool false)
  have hz : (set8 w R (.int .i64 0) (.int .i64 0) (.slice none 0 0) (.int .u8 0) (.int .i64 0) (.int .i64 0) (.string ⟨#[]⟩) (.bool false)).heap.size = w.heap.size := by simp [set8, World.setCell]
  have hk := hlo.kept (set8_grown (.int .i64 0) (.int .i64 0) (.slice none 0 0) (.int .u8 0) (.int .i64 0) (.int .i64 0) (.string ⟨#[]⟩) (.bool false)) (by
    cases hv : lv.ownBlock with
    | none => exact .inl rfl
    | some g => exact .inr fun e => by have := h.hp.apart .lns .rd _ _ R rfl rfl (by rw [← e]; exact hv) rfl; cases this)
  refine ⟨_, lA, lc, hlv, hlc, rfl, ?_, hB0.alloc (by rw [hz]; omega) _, by simp [hz], ?_, ?_⟩
  · have := hA0.ext_in (ext_alloc _ (.cells (lfArr lv l) 136)) (a := .blk w.heap.size (lfArr lv l) 136) ⟨by omega, by
      have := heap_alloc_new (set8 w R (.int .i64 0) (.int .i64 0) (.slice none 0 0) (.int .u8 0) (.int .i64 0) (.int .i64 0) (.string ⟨#[]⟩) (.bool false)) (.cells (lfArr lv l) 136)
      rw [hz] at this; exact this⟩ (fun g hg => by cases hg; exact Nat.le_of_eq hz)
    exact this
  · rw [hlv] at hk
    exact (Row.own hk).ext (ext_alloc _ _)
  · have := heap_alloc_new (set8 w R (.int .i64 0) (.int .i64 0) (.slice none 0 0) (.int .u8 0) (.int .i64 0) (.int .i64 0) (.string ⟨#[]⟩) (.bool false)) (.cells (lfArr lv l) 136)
    rw [hz] at this; exact this
end

/-- what is read of the leaf -/
def LfS (b : Nat) (lv : Value) (l : Pb.Of) (u : World) : Prop := u.cell? ⟨b, 1, none⟩ = some (.int .i64 (l.line : Int)) ∧ u.cell? ⟨b, 2, none⟩ = some lv ∧ u.cell? ⟨b, 6, none⟩ = some (.string (bs l.op.info))
theorem LfS.of {b : Nat} {lv : Value} {l : Pb.Of} {u : World} {t : TypeId} (h : u.heap[b]? = some (.cells (lfArr lv l) t (0, 0))) : LfS b lv l u := ⟨cell_of h rfl, cell_of h rfl, cell_of h rfl⟩
theorem LfS.ext {b : Nat} {lv : Value} {l : Pb.Of} {u u' : World} (h : LfS b lv l u) (hb : Below u.heap.size u u') (hl : b < u.heap.size) : LfS b lv l u' :=
  ⟨(hb.cell (p := ⟨b, 1, none⟩) hl).trans h.1, (hb.cell (p := ⟨b, 2, none⟩) hl).trans h.2.1, (hb.cell (p := ⟨b, 6, none⟩) hl).trans h.2.2⟩
theorem TM_leaf (M : Mm) (kd : Nat) (t inf : List UInt8) (ln : Nat) : TM M (.mk kd 0 t inf ln []) [.int .i64 (kd : Int), .int .i64 0, .string (bs t), .string (bs inf), .int .i64 (ln : Int), .slice none 0 0] := by
  unfold TM
  exact ⟨none, 0, [], rfl, Nat.le_refl _, ⟨rfl, fun h => by cases h⟩, TMs_nil⟩

set_option maxHeartbeats 1000000 in
set_option maxRecDepth 100000 in
theorem pcl_para (w : World) (B : Nat) (E : Nat → Option Part) (R : Nat) (rv lv pv : Value) (M : Mm) (x : MC) (o : List MC) (l : Pb.Of) (ps : List Bk.Pl) (h : PAt w B E R rv lv pv M (x :: o) l ps) (h4 : l.kind = 4) (hlen : o.length ≤ 1000) (hkids : x.c.all.length ≤ 1000000000) (hN : l.lines.length ≤ 1000000000) (hJ : (Pb.joinNl l.lines).length ≤ 1000000000000) :
    Calls Tryz.prog 123 #[adr R] w fun e w' => e = .returned (.tuple #[]) ∧ (∃ M' x', x'.c = x.c.add (Pb.paraTree l) ∧ PAt w' B E R rv (.slice none 0 0) pv M' (x' :: o) Pb.noLeaf ps) ∧ Below B w w' := by
  obtain ⟨kd, ln, ls, op, en⟩ := l
  cases (show kd = 4 from h4)
  clear h4
  simp only at hN hJ
  obtain ⟨hR1, hR2, hfr, c0, c1, c2, c3, c4, c5, c6, c7, c8, c9⟩ := rd_facts h
  obtain ⟨wq, lA, lc, hlv, hlc, hwq, hA, hB, hz, hrow, hlb⟩ := leaf_out h
  obtain ⟨E', hE'⟩ : ∃ E', shiftE (.blk w.heap.size (lfArr lv ⟨4, ln, ls, op, en⟩) 136) E = E' := ⟨_, rfl⟩
  rw [hE'] at hA
  have hgc := row_facts hA
  obtain ⟨g, c, hrv, _⟩ := hgc
  have hla := fun wz h => pb_plast_any wz B E' R rv (.slice none 0 0) pv M x o Pb.noLeaf ps h g c hrv hlen
  have hadd := fun wz h cs ht => padd_any wz B E' R rv (.slice none 0 0) pv M x o Pb.noLeaf ps h g c hrv (Pb.paraTree ⟨4, ln, ls, op, en⟩) cs ht hlen hkids
  have hjn := fun wz h => sjoin_any ls lA lc wz h hlc hN hJ
  have hTM := TM_leaf M 4 (Pb.joinNl ls) [] ln
  obtain ⟨n, hn⟩ : ∃ n, ls.length = n := ⟨_, rfl⟩
  obtain ⟨J, hJ'⟩ : ∃ J, Pb.joinNl ls = J := ⟨_, rfl⟩
  simp only at hlv hlc hrow
  rw [hlv] at hwq hE' hlb c3
  rw [hn] at hwq hlb hlc c3 hrow hjn hE'
  rw [hJ'] at hjn hTM
  rw [show Pb.paraTree ⟨4, ln, ls, op, en⟩ = .mk 4 0 J [] ln [] from by rw [← hJ']; rfl] at hadd ⊢
  obtain ⟨P, hP⟩ : ∃ P, o.length * 9 = P := ⟨_, rfl⟩
  rw [hP] at hla hadd
  have hS := LfS.of hlb
  replace h := Lib.hid h
  replace hA := Lib.hid hA
  replace hE' := Lib.hid hE'
  replace hlb := Lib.hid hlb
  replace hla := Lib.hid hla
  replace hadd := Lib.hid hadd
  replace hjn := Lib.hid hjn
  replace hTM := Lib.hid hTM
  replace hrow := Lib.hid hrow
  replace hn := Lib.hid hn
  replace hJ' := Lib.hid hJ'
  replace hlv := Lib.hid hlv
  replace hwq := Lib.hid hwq
  clear c0 c9 hJ hN
  go_enter Tryz.func123, Tryz.ntmps123
  go_wp2_with fail
  change Code.wp _ _ _ _ (World.alloc (set8 w R (.int .i64 0) (.int .i64 0) (.slice none 0 0) (.int .u8 0) (.int .i64 0) (.int .i64 0) (.string ⟨#[]⟩) (.bool false)) (.cells (lfArr (.slice lA n lc) ⟨4, ln, ls, op, en⟩) 136))
  rw [hwq.out]
  refine wp_region_can [(true, 0), (true, 2), (true, 3), (true, 5), (true, 6), (false, 1), (false, 4), (true, 7), (false, 8)] (LfS w.heap.size (.slice lA n lc) ⟨4, ln, ls, op, en⟩) hS (by kernel_rfl) (by kernel_rfl) (by kernel_rfl) (fun _ _ d _ _ h => by cases d <;> exact h) ?_
  have hdA := Lib.hid (PAt.mk (hA.out.hp.ext (ext_drew wq)) hA.out.good hA.out.old)
  have hdr := Lib.hid (hrow.out.dr)
  have hdB := hB.drew
  have hdz : wq.drew.heap.size = w.heap.size + 1 := hz
  have hdS : LfS w.heap.size (.slice lA n lc) ⟨4, ln, ls, op, en⟩ wq.drew := hS
  generalize wq.drew = wr at hdA hdr hdB hdz hdS ⊢
  clear hS hz hB
  have hAf := hwq.out
  clear hAf
  repeat (first | refine wpCan_move rfl ?_ | (refine wpCan_cons rfl ?_; intro K hK; go_simp; refine hK _ _ _ ?_; clear hK K))
  refine wpCan_read (.slice lA n lc) rfl rfl hdS (fun u hu => by obtain ⟨u1, u2, u3⟩ := hu; go_simp) ?_
  repeat (first | refine wpCan_move rfl ?_ | (refine wpCan_cons rfl ?_; intro K hK; go_simp; refine hK _ _ _ ?_; clear hK K))
  refine wpCan_read (.int .i64 (ln : Int)) rfl rfl hdS (fun u hu => by obtain ⟨u1, u2, u3⟩ := hu; go_simp) ?_
  refine wpCan_cons rfl ?_
  intro K hK
  go_simp
  refine (hla.out _ hdA.out).mono ?_
  rintro e w1 ⟨rfl, hb1⟩
  have hS1 := hdS.ext hb1 (by omega)
  refine can_same hS1 (hK _ _ _ ?_)
  clear hK K
  refine wpCan_cons rfl ?_
  intro K hK
  go_simp
  refine (hjn.out _ (hdr.out.ext hb1)).mono ?_
  rintro e w2 ⟨rfl, hb2⟩
  have hS2 := hS1.ext hb2 (by have := hb1.size; omega)
  refine can_same hS2 (hK _ _ _ ?_)
  clear hK K
  have hb12 := ext_trans hb1 hb2
  have hA2 := PAt.mk (hdA.out.hp.ext hb12) hdA.out.good hdA.out.old
  repeat (first | refine wpCan_move rfl ?_ | (refine wpCan_cons rfl ?_; intro K hK; go_simp; refine hK _ _ _ ?_; clear hK K))
  refine wpCan_cons rfl ?_
  intro K hK
  go_simp
  refine (hadd.out _ hA2 _ hTM.out).mono ?_
  rintro e w3 ⟨rfl, ⟨M', x', hx', hA3⟩, hb3⟩
  have hS3 : LfS w.heap.size (.slice lA n lc) ⟨4, ln, ls, op, en⟩ w3 := LfS.of (hA3.hp.base (k := .ext 0) (show E' 0 = some (.blk w.heap.size (lfArr (.slice lA n lc) ⟨4, ln, ls, op, en⟩) 136) from by rw [← hE'.out]; rfl)).2.2
  have hBf := Lib.hid ((hdB.trans (hb12.mono (by omega))).trans hb3)
  replace hA3 := Lib.hid (by rw [← hE'.out] at hA3; exact hA3.ext_out : PAt w3 B E R rv (.slice none 0 0) pv M' (x' :: o) Pb.noLeaf ps)
  refine can_same hS3 (hK _ _ _ ?_)
  clear hK K
  refine wpCan_nil ?_
  go_wp2_with fail
  go_returns
  exact ⟨rfl, ⟨M', x', hx', hA3.out⟩, hBf.out⟩
end Go.Proofs.YtmmgfoepfapnkaaGreatDoor

namespace Go.Proofs.YtmmgfoepfapnkaaGreatDoor
open Go.RowKit
attribute [local go_sem] canOp readsAs readUpon

def plcArr (p : Bk.Pl) : Array Value := #[.int .i64 (p.line : Int), .int .u8 (p.op.c.toNat : Int), .int .i64 (p.op.n : Int), .int .i64 (p.op.ind : Int), .string (bs p.op.info), .int .i64 (p.first : Int), .int .i64 (p.last : Int), .bool p.closed]

set_option maxHeartbeats 1000000 in
set_option maxRecDepth 100000 in
theorem pplace_any (lA : Option Addr) (lc ln n : Nat) (fc : UInt8) (fn fi : Nat) (fs : List UInt8) (en : Bool) (kd : Int) (w : World) (hl : ln ≤ 1000000000) (hn : n ≤ 1000000000) :
    Calls Tryz.prog 159 #[.agg #[.int .i64 kd, .int .i64 (ln : Int), .slice lA n lc, .int .u8 (fc.toNat : Int), .int .i64 (fn : Int), .int .i64 (fi : Int), .string (bs fs), .bool en]] w fun e w' =>
      e = .returned (.agg (plcArr ⟨ln, ⟨fc, fn, fi, fs⟩, ln + 1, ln + 1 + n, en⟩)) ∧ Below w.heap.size w w' := by
  have e1 : IntKind.i64.wrap ((ln : Int) + 1) = (ln : Int) + 1 := by unfold IntKind.wrap; simp [IntKind.bits, IntKind.signed]; omega
  go_enter Tryz.func159, Tryz.ntmps159
  go_wp2_with fail
  have hcast : plcArr ⟨ln, ⟨fc, fn, fi, fs⟩, ln + 1, ln + 1 + n, en⟩ = #[.int .i64 (ln : Int), .int .u8 (fc.toNat : Int), .int .i64 (fn : Int), .int .i64 (fi : Int), .string (bs fs), .int .i64 ((ln : Int) + 1), .int .i64 ((ln : Int) + 1 + (n : Int)), .bool en] := by
    unfold plcArr; simp
  rw [hcast]
  exact bodyPost_ret (v := .agg #[.int .i64 (ln : Int), .int .u8 (fc.toNat : Int), .int .i64 (fn : Int), .int .i64 (fi : Int), .string (bs fs), .int .i64 ((ln : Int) + 1), .int .i64 ((ln : Int) + 1 + (n : Int)), .bool en]) (by rw [results_cell1 rfl]; go_simp) rfl ⟨rfl, (ext_alloc w _).alloc (by simp) _⟩
end Go.Proofs.YtmmgfoepfapnkaaGreatDoor

namespace Go.Proofs.YtmmgfoepfapnkaaGreatDoor
open Go.RowKit
attribute [local go_sem] canOp readsAs readUpon

theorem pplaceEI : EI Tryz.prog 103 107 8 72 := EI.mk' (z := .agg #[.int .i64 0, .int .u8 0, .int .i64 0, .int .i64 0, .string ⟨#[]⟩, .int .i64 0, .int .i64 0, .bool false]) Tryz.underlying103 (by kernel_rfl) rfl (by omega)
/-- what is read when a place is laid -/
def PlcS (R lb : Nat) (pv lv : Value) (l : Pb.Of) (u : World) : Prop := u.cell? ⟨R, 9, none⟩ = some pv ∧ u.heap[lb]? = some (.cells (lfArr lv l) 136 (0, 0))
section
variable {w w' : World} {B R : Nat} {E : Nat → Option Part} {rv lv pv : Value} {M : Mm} {row : List MC} {l : Pb.Of} {ps : List Bk.Pl}
/-- a place more -/
theorem places_done (h : PAt w B E R rv lv pv M row l ps) (p : Bk.Pl) {w3 : World} {v : Value} (hown : w3.ownsRow B 107 8 v (ps.length + 1) (plcCells ps ++ (plcArr p).toList)) (hg : w.grownBy w3 pv.ownBlock) (hat : At w.heap.size pv v) :
    B ≤ R ∧ R < w3.heap.size ∧ w3.cell? ⟨R, 9, none⟩ = some pv ∧ (∀ j, w3.frozen? ⟨R, j, none⟩ = false) ∧ PAt (w3.setCell ⟨R, 9, none⟩ v) B E R rv lv v M row l (ps ++ [p]) := by
  have H1 := h.hp.uput (k := .pls) (.row 107 8 v (ps.length + 1) (plcCells ps ++ (plcArr p).toList)) rfl hg hown hat
  obtain ⟨hq1, hq2, hqc⟩ := H1.base (k := .rd) rfl
  have m3 := H1.ustore (k := .rd) 9 v rfl
  refine ⟨hq1, hq2, cell_of hqc rfl, blk_free hqc, m3.same fun j => ?_, h.good, h.old⟩
  cases j with
  | pls =>
    show some (Part.row _ 8 v (ps ++ [p]).length (plcCells (ps ++ [p]))) = _
    rw [List.length_append, plcCells_append]; rfl
  | rd => rfl
  | _ => rfl
end

set_option maxHeartbeats 2000000 in
set_option maxRecDepth 100000 in
theorem pcl_fence (w : World) (B : Nat) (E : Nat → Option Part) (R : Nat) (rv lv pv : Value) (M : Mm) (x : MC) (o : List MC) (l : Pb.Of) (ps : List Bk.Pl) (h : PAt w B E R rv lv pv M (x :: o) l ps) (h4 : l.kind = 7) (hlen : o.length ≤ 1000) (hkids : x.c.all.length ≤ 1000000000) (hN : l.lines.length ≤ 1000000000) (hJ : (Ln.join l.lines [10]).length ≤ 1000000000000)
    (hln : l.line ≤ 1000000000) (hps : ps.length ≤ 1000000000) (PL : List Bk.Pl) (hPL : PL = if o.length = 0 then ps ++ [l.place] else ps) :
    Calls Tryz.prog 123 #[adr R] w fun e w' => e = .returned (.tuple #[]) ∧ (∃ pv' M' x', x'.c = x.c.add (Pb.fenceTree l) ∧ PAt w' B E R rv (.slice none 0 0) pv' M' (x' :: o) Pb.noLeaf PL) ∧ Below B w w' := by
  obtain ⟨kd, ln, ls, op, en⟩ := l
  cases (show kd = 7 from h4)
  clear h4
  simp only at hN hJ hln
  obtain ⟨hR1, hR2, hfr, c0, c1, c2, c3, c4, c5, c6, c7, c8, c9⟩ := rd_facts h
  obtain ⟨wq, lA, lc, hlv, hlc, hwq, hA, hB, hz, hrow, hlb⟩ := leaf_out h
  obtain ⟨E', hE'⟩ : ∃ E', shiftE (.blk w.heap.size (lfArr lv ⟨7, ln, ls, op, en⟩) 136) E = E' := ⟨_, rfl⟩
  rw [hE'] at hA
  have hgc := row_facts hA
  obtain ⟨g, c, hrv, _⟩ := hgc
  have hla := fun wz h => pb_plast_any wz B E' R rv (.slice none 0 0) pv M x o Pb.noLeaf ps h g c hrv hlen
  have hadd := fun wz h cs ht => padd_any wz B E' R rv (.slice none 0 0) pv M x o Pb.noLeaf ps h g c hrv (Pb.fenceTree ⟨7, ln, ls, op, en⟩) cs ht hlen hkids
  have hjn := fun wz h => join_any ls [10] lA lc wz h (by omega) hJ
  have hTM := TM_leaf M 7 (Ln.join ls [10]) op.info ln
  obtain ⟨n, hn⟩ : ∃ n, ls.length = n := ⟨_, rfl⟩
  obtain ⟨J, hJ'⟩ : ∃ J, Ln.join ls [10] = J := ⟨_, rfl⟩
  simp only at hlv hlc hrow
  have hpl := fun wz => pplace_any lA lc ln n op.c op.n op.ind op.info en 7 wz hln (by omega)
  rw [show (Pb.Of.place ⟨7, ln, ls, op, en⟩ : Bk.Pl) = ⟨ln, op, ln + 1, ln + 1 + n, en⟩ from by rw [← hn]; rfl] at hPL
  rw [hlv] at hwq hE' hlb c3
  rw [hn] at hwq hlb hlc c3 hrow hjn hE' hN
  rw [hJ'] at hjn hTM hJ
  rw [show Pb.fenceTree ⟨7, ln, ls, op, en⟩ = .mk 7 0 J op.info ln [] from by rw [← hJ']; rfl] at hadd ⊢
  obtain ⟨P, hP⟩ : ∃ P, o.length * 9 = P := ⟨_, rfl⟩
  rw [hP] at hla hadd
  have hS := LfS.of hlb
  replace h := Lib.hid h
  replace hA := Lib.hid hA
  replace hE' := Lib.hid hE'
  replace hlb := Lib.hid hlb
  replace hla := Lib.hid hla
  replace hadd := Lib.hid hadd
  replace hjn := Lib.hid hjn
  replace hpl := Lib.hid hpl
  replace hTM := Lib.hid hTM
  replace hrow := Lib.hid hrow
  replace hn := Lib.hid hn
  replace hJ' := Lib.hid hJ'
  replace hlv := Lib.hid hlv
  replace hwq := Lib.hid hwq
  clear c0 c9
  go_enter Tryz.func123, Tryz.ntmps123
  go_wp2_with fail
  change Code.wp _ _ _ _ (World.alloc (set8 w R (.int .i64 0) (.int .i64 0) (.slice none 0 0) (.int .u8 0) (.int .i64 0) (.int .i64 0) (.string ⟨#[]⟩) (.bool false)) (.cells (lfArr (.slice lA n lc) ⟨7, ln, ls, op, en⟩) 136))
  rw [hwq.out]
  refine wp_region_can [(true, 0), (true, 2), (true, 3), (true, 6), (true, 7), (true, 8), (true, 9), (true, 10), (false, 1), (false, 4), (false, 5), (true, 11), (false, 12)] (LfS w.heap.size (.slice lA n lc) ⟨7, ln, ls, op, en⟩) hS (by kernel_rfl) (by kernel_rfl) (by kernel_rfl) (fun _ _ d _ _ h => by cases d <;> exact h) ?_
  have hdA := Lib.hid (PAt.mk (hA.out.hp.ext (ext_drew wq)) hA.out.good hA.out.old)
  have hdr := Lib.hid (hrow.out.dr)
  have hdB := hB.drew
  have hdz : wq.drew.heap.size = w.heap.size + 1 := hz
  have hdS : LfS w.heap.size (.slice lA n lc) ⟨7, ln, ls, op, en⟩ wq.drew := hS
  generalize wq.drew = wr at hdA hdr hdB hdz hdS ⊢
  clear hS hz hB
  repeat (first | refine wpCan_move rfl ?_ | (refine wpCan_cons rfl ?_; intro K hK; go_simp; refine hK _ _ _ ?_; clear hK K))
  refine wpCan_read (.slice lA n lc) rfl rfl hdS (fun u hu => by obtain ⟨u1, u2, u3⟩ := hu; go_simp) ?_
  repeat (first | refine wpCan_move rfl ?_ | (refine wpCan_cons rfl ?_; intro K hK; go_simp; refine hK _ _ _ ?_; clear hK K))
  refine wpCan_read (.string (bs op.info)) rfl rfl hdS (fun u hu => by obtain ⟨u1, u2, u3⟩ := hu; go_simp) ?_
  repeat (first | refine wpCan_move rfl ?_ | (refine wpCan_cons rfl ?_; intro K hK; go_simp; refine hK _ _ _ ?_; clear hK K))
  refine wpCan_read (.int .i64 (ln : Int)) rfl rfl hdS (fun u hu => by obtain ⟨u1, u2, u3⟩ := hu; go_simp) ?_
  refine wpCan_cons rfl ?_
  intro K hK
  go_simp
  refine (hla.out _ hdA.out).mono ?_
  rintro e w1 ⟨rfl, hb1⟩
  have hS1 := hdS.ext hb1 (by omega)
  refine can_same hS1 (hK _ _ _ ?_)
  clear hK K
  refine wpCan_cons rfl ?_
  intro K hK
  go_simp
  refine (hjn.out _ (hdr.out.ext hb1)).mono ?_
  rintro e w2 ⟨v2, rfl, hown2, hb2⟩
  have hS2 := hS1.ext hb2 (by have := hb1.size; omega)
  obtain ⟨A2, c2', rfl, _⟩ := own_shape hown2
  have hcv := run_text (c := c2') (Row.own hown2) 31 5 9 Tryz.underlying31 Tryz.underlying5 Tryz.underlying9
  refine can_same hS2 (hK _ _ _ ?_)
  clear hK K
  have hb12 := ext_trans hb1 hb2
  have hA2 := PAt.mk (hdA.out.hp.ext hb12) hdA.out.good hdA.out.old
  replace hown2 := Lib.hid hown2
  replace hA2 := Lib.hid hA2
  refine wpCan_cons rfl ?_
  intro K hK
  go_simp
  refine can_same hS2 (hK _ _ _ ?_)
  clear hK K
  repeat (first | refine wpCan_move rfl ?_ | (refine wpCan_cons rfl ?_; intro K hK; go_simp; refine hK _ _ _ ?_; clear hK K))
  refine wpCan_cons rfl ?_
  intro K hK
  go_simp
  refine (hadd.out _ hA2.out _ hTM.out).mono ?_
  rintro e w3 ⟨rfl, ⟨M', x', hx', hA3⟩, hb3⟩
  have hlb3 := (hA3.hp.base (k := .ext 0) (show E' 0 = some (.blk w.heap.size (lfArr (.slice lA n lc) ⟨7, ln, ls, op, en⟩) 136) from by rw [← hE'.out]; rfl)).2.2
  have hS3 : LfS w.heap.size (.slice lA n lc) ⟨7, ln, ls, op, en⟩ w3 := LfS.of hlb3
  have hBf := Lib.hid ((hdB.trans (hb12.mono (by omega))).trans hb3)
  have hrd3 := rd_facts hA3
  have hpo := hA3.hp.own (k := .pls) rfl
  obtain ⟨pA, pc, hpv, _⟩ := own_shape hpo
  obtain ⟨nn, hnn⟩ : ∃ nn, o.length = nn := ⟨_, rfl⟩
  obtain ⟨hR3, hR4, hfr3, d0, _, _, _, _, _, _, _, _, d9⟩ := hrd3
  rw [hrv, hnn] at d0
  replace hA3 := Lib.hid hA3
  replace hpo := Lib.hid hpo
  replace hlb3 := Lib.hid hlb3
  refine can_same hS3 (hK _ _ _ ?_)
  clear hK K
  refine wpCan_nil ?_
  by_cases h0 : nn = 0
  · subst h0
    rw [if_pos hnn] at hPL
    rw [hpv] at d9
    have hPS : ∀ u : World, u.heap.size = w3.heap.size → u.heap = w3.heap → PlcS R w.heap.size (.slice pA ps.length pc) (.slice lA n lc) ⟨7, ln, ls, op, en⟩ u := fun u _ hu => ⟨by
      have : u.cell? ⟨R, 9, none⟩ = w3.cell? ⟨R, 9, none⟩ := World.cell?_of_block (by rw [hu])
      rw [this]; exact d9, by rw [hu]; exact hlb3.out⟩
    go_wp2_with fail
    have hP0 : PlcS R w.heap.size (.slice pA ps.length pc) (.slice lA n lc) ⟨7, ln, ls, op, en⟩ w3.drew := hPS _ rfl rfl
    refine wp_region_bar 11 [(true, 0), (true, 1), (true, 2), (true, 3), (true, 4), (true, 5), (false, 6), (false, 7), (false, 8), (false, 9), (false, 10)] 0 .fin (PlcS R w.heap.size (.slice pA ps.length pc) (.slice lA n lc) ⟨7, ln, ls, op, en⟩) hP0 (by kernel_rfl) (by kernel_rfl) (by kernel_rfl) (fun _ _ d _ _ h => by cases d <;> exact h) ?_
    have hA4 := Lib.hid (PAt.mk (hA3.out.hp.ext (ext_drew w3)) hA3.out.good hA3.out.old)
    have hB4 := Lib.hid hBf.out.drew
    obtain ⟨np, hnp⟩ : ∃ np, ps.length = np := ⟨_, rfl⟩
    rw [hnp] at hP0 hpv hps ⊢
    obtain ⟨_, hw4, _⟩ := rd_facts hA4.out
    have hbw4 := Part.lt (hA4.out.hp.holds (.ext 0) _ (show E' 0 = some (.blk w.heap.size (lfArr (.slice lA n lc) ⟨7, ln, ls, op, en⟩) 136) from by rw [← hE'.out]; rfl)) (g := w.heap.size) rfl
    generalize w3.drew = w4 at hA4 hB4 hP0 hw4 hbw4 ⊢
    clear hlb3 hPS hpo hS3 hfr3 d0 d9 hR4
    repeat (first | refine wpBar_move rfl ?_ | (refine wpBar_cons rfl ?_; intro K hK; go_simp; refine hK _ _ _ ?_; clear hK K))
    refine wpBar_read (.slice pA np pc) rfl rfl hP0 (fun u hu => by obtain ⟨u1, u2⟩ := hu; go_simp) ?_
    refine wpBar_read (.agg (lfArr (.slice lA n lc) ⟨7, ln, ls, op, en⟩)) rfl rfl hP0 (fun u hu => by
      obtain ⟨u1, u2⟩ := hu
      have y0 := cell_of u2 (j := 0) rfl
      have y1 := cell_of u2 (j := 1) rfl
      have y2 := cell_of u2 (j := 2) rfl
      have y3 := cell_of u2 (j := 3) rfl
      have y4 := cell_of u2 (j := 4) rfl
      have y5 := cell_of u2 (j := 5) rfl
      have y6 := cell_of u2 (j := 6) rfl
      have y7 := cell_of u2 (j := 7) rfl
      clear u2
      go_simp) ?_
    refine wpBar_cons rfl ?_
    intro K hK
    go_simp
    refine (hpl.out _).mono ?_
    rintro e w5 ⟨rfl, hb5⟩
    have hS5 : PlcS R w.heap.size (.slice pA np pc) (.slice lA n lc) ⟨7, ln, ls, op, en⟩ w5 := ⟨(hb5.cell (p := ⟨R, 9, none⟩) hw4).trans hP0.1, (hb5.block _ hbw4.2).trans hP0.2⟩
    have hz5 := hb5.size
    refine can_same hS5 (hK _ _ _ ?_)
    clear hK K
    have hA5 := Lib.hid (PAt.mk (hA4.out.hp.ext hb5) hA4.out.good hA4.out.old)
    have hB5 := Lib.hid (hB4.out.trans (hb5.mono (by have := hB4.out.size; omega)))
    obtain ⟨Z, hZ⟩ : ∃ Z : Array Value, plcArr ⟨ln, op, ln + 1, ln + 1 + n, en⟩ = Z := ⟨_, rfl⟩
    have hZ8 : Z.size = 1 * 8 := by rw [← hZ]; rfl
    have hZ1 : ∀ u ∈ Z.toList, u.oneCell' = true := by rw [← hZ]; unfold plcArr; intro u hu; simp at hu; rcases hu with rfl | rfl | rfl | rfl | rfl | rfl | rfl | rfl <;> rfl
    rw [show plcArr ⟨ln, ⟨op.c, op.n, op.ind, op.info⟩, ln + 1, ln + 1 + n, en⟩ = #[.int .i64 (ln : Int), .int .u8 (op.c.toNat : Int), .int .i64 (op.n : Int), .int .i64 (op.ind : Int), .string (bs op.info), .int .i64 ((ln + 1 : Nat) : Int), .int .i64 ((ln + 1 + n : Nat) : Int), .bool en] from rfl]
    refine wpBar_cons rfl ?_
    intro K hK
    obtain ⟨q1, hq1⟩ : ∃ q1 : Int, ((ln + 1 : Nat) : Int) = q1 := ⟨_, rfl⟩
    obtain ⟨q2, hq2⟩ : ∃ q2 : Int, ((ln + 1 + n : Nat) : Int) = q2 := ⟨_, rfl⟩
    rw [hq1, hq2]
    go_simp
    rw [show #[Value.int .i64 (ln : Int), .int .u8 (op.c.toNat : Int), .int .i64 (op.n : Int), .int .i64 (op.ind : Int), .string (bs op.info), .int .i64 q1, .int .i64 q2, .bool en] = Z from by rw [← hZ, ← hq1, ← hq2]; rfl]
    have hS6 : PlcS R w.heap.size (.slice pA np pc) (.slice lA n lc) ⟨7, ln, ls, op, en⟩ (w5.alloc (.cells Z 107)) := ⟨((ext_alloc w5 _).cell (p := ⟨R, 9, none⟩) (by show R < w5.heap.size; omega)).trans hS5.1, ((ext_alloc w5 _).block _ (by omega)).trans hS5.2⟩
    refine can_same hS6 (hK _ _ _ ?_)
    clear hK K
    have hpo5 := hA5.out.hp.own (k := .pls) rfl
    rw [hpv, hnp] at hpo5
    have hRo : some R ≠ (Value.slice pA np pc).ownBlock := fun e => by
      have := hA5.out.hp.apart .rd .pls _ _ R rfl rfl rfl (by rw [hpv]; exact e.symm)
      cases this
    have hlo : some w.heap.size ≠ (Value.slice pA np pc).ownBlock := fun e => by
      have := hA5.out.hp.apart (.ext 0) .pls _ _ w.heap.size (show E' 0 = some (.blk w.heap.size (lfArr (.slice lA n lc) ⟨7, ln, ls, op, en⟩) 136) from by rw [← hE'.out]; rfl) rfl rfl (by rw [hpv]; exact e.symm)
      cases this
    have hr5 := Row.freshN w5 107 Z hZ8 rfl
    have hBz : B ≤ w5.heap.size := by have := hB5.out.size; omega
    refine wpBar_cons rfl ?_
    intro K hK
    unfold canOp
    rw [if_pos (by rfl), if_neg (by simp)]
    refine wp_app_row_at (v := .slice pA np pc) (.tmp 49) (.tmp 52) rfl pplaceEI rfl (hpo5.alloc _) rfl hr5 hZ1 (by omega) (by omega) (by simp; omega) ?_
    intro v7 w7 hown7 hg7 hb7 hat7
    obtain ⟨vA7, vc7, rfl, hvc7⟩ := own_shape hown7
    have hS7 : PlcS R w.heap.size (.slice pA np pc) (.slice lA n lc) ⟨7, ln, ls, op, en⟩ w7 := ⟨hg7.out.cell hS6.1 hRo, (hg7.out.block _ (by simp; omega) hlo).trans hS6.2⟩
    have hA6 := PAt.mk (hA5.out.hp.ext (ext_alloc w5 (.cells Z 107))) hA5.out.good hA5.out.old
    subst hZ
    obtain ⟨hf1, hf2, hf3, hf4, hf5⟩ := places_done hA6 ⟨ln, op, ln + 1, ln + 1 + n, en⟩ (v := .slice vA7 (np + 1) vc7) (by rw [hnp]; exact hown7) (by rw [hpv]; exact hg7.out) (by rw [hpv]; exact hat7.out)
    rw [hpv] at hf3
    replace hf5 := Lib.hid hf5
    have hB7 := Lib.hid (((hB5.out.alloc (by omega) _).trans hb7).setCell (p := ⟨R, 9, none⟩) hf1 (.slice vA7 (np + 1) vc7))
    refine can_same hS7 (hK _ _ _ ?_)
    clear hK K
    refine wpBar_cons rfl ?_
    intro K hK
    go_simp
    refine can_same hS7 (hK _ _ _ ?_)
    clear hK K
    refine wpBar_cons rfl ?_
    intro K hK
    go_simp
    refine can_same hS7 (hK _ _ _ ?_)
    clear hK K
    refine wpBar_bar rfl rfl ?_
    go_simp
    refine ⟨fun _ => True, trivial, wpT_fin ?_⟩
    go_wp2_with fail
    go_returns
    subst hPL
    exact ⟨rfl, ⟨_, M', x', hx', by have := hf5.out; rw [← hE'.out] at this; exact this.ext_out⟩, hB7.out⟩
  · rw [if_neg (by omega)] at hPL
    subst hPL
    have t1 : (((nn : Int) + 1) == 1) = false := by rw [beq_eq_false_iff_ne]; omega
    go_wp2_with fail
    go_returns
    exact ⟨rfl, ⟨pv, M', x', hx', by have := hA3.out; rw [← hE'.out] at this; exact this.ext_out⟩, hBf.out⟩
end Go.Proofs.YtmmgfoepfapnkaaGreatDoor

namespace Go.Proofs.YtmmgfoepfapnkaaGreatDoor
open Go.RowKit
attribute [local go_sem] canOp readsAs readUpon

structure Pb.Sz (N i : Nat) (r : Pb.Rd) : Prop where
  pos : 0 < r.row.length
  few : r.row.length ≤ 41
  kids : ∀ c ∈ r.row, c.all.length ≤ N
  itms : ∀ c ∈ r.row, ∀ s ln is, c.lst = some (s, ln, is) → is.length ≤ N
  sign : ∀ c ∈ r.row, c.kind = 3 → c.sign ≠ 0
  lines : r.leaf.lines.length ≤ i
  text : ∀ s ∈ r.leaf.lines, s.length ≤ 300010
  line : r.leaf.line ≤ 1000000
  pls : r.places.length ≤ N
theorem joinNl_le {m : Nat} : ∀ ls : List (List UInt8), (∀ s ∈ ls, s.length ≤ m) → (Pb.joinNl ls).length ≤ ls.length * (m + 1)
  | [], _ => by simp [Pb.joinNl]
  | [x], h => by have := h x List.mem_cons_self; simp [Pb.joinNl]; omega
  | x :: y :: r, h => by
    have h1 := h x List.mem_cons_self
    have ih := joinNl_le (y :: r) (fun s hs => h s (List.mem_cons_of_mem _ hs))
    simp only [Pb.joinNl, List.length_append, List.length_cons, Nat.add_mul] at ih ⊢
    omega
theorem lnjoin_le {m : Nat} : ∀ ls : List (List UInt8), (∀ s ∈ ls, s.length ≤ m) → (Ln.join ls [10]).length ≤ ls.length * (m + 1)
  | [], _ => by simp [Ln.join]
  | x :: r, h => by
    have h1 := h x List.mem_cons_self
    have ih := lnjoin_le r (fun s hs => h s (List.mem_cons_of_mem _ hs))
    have e : Ln.join (x :: r) [10] = x ++ [10] ++ Ln.join r [10] := rfl
    rw [e]
    simp only [List.length_append, List.length_cons, List.length_nil, Nat.add_mul] at ih ⊢
    omega
theorem Pb.Sz.joins {N i : Nat} {r : Pb.Rd} (h : Pb.Sz N i r) (hi : i ≤ 100000) : (Pb.joinNl r.leaf.lines).length ≤ 1000000000000 ∧ (Ln.join r.leaf.lines [10]).length ≤ 1000000000000 := by
  have h1 := joinNl_le _ h.text
  have h2 := lnjoin_le _ h.text
  have h3 := h.lines
  have h4 : r.leaf.lines.length * (300010 + 1) ≤ 100000 * (300010 + 1) := Nat.mul_le_mul_right _ (by omega)
  omega
theorem all_add (c : Pb.Cn) (t : Bk.Tree) : (c.add t).all.length = c.all.length + 1 := by
  show ((c.all ++ [t]) ++ []).length = _
  simp
theorem addTip_sz {N i : Nat} {r : Pb.Rd} (h : Pb.Sz N i r) (t : Bk.Tree) : Pb.Sz (N + 1) i (Pb.addTip t r) := by
  unfold Pb.addTip
  cases hr : r.row with
  | nil => have := h.pos; rw [hr] at this; simp at this
  | cons c o =>
    have hp := h.pos; have hf := h.few
    rw [hr] at hp hf
    have hm : ∀ c' ∈ o, c' ∈ r.row := fun c' hc' => by rw [hr]; exact List.mem_cons_of_mem _ hc'
    have hc : c ∈ r.row := by rw [hr]; exact List.mem_cons_self
    refine ⟨by simp, by simpa using hf, fun c' hc' => ?_, fun c' hc' s ln is e => ?_, fun c' hc' => ?_, h.lines, h.text, h.line, by have := h.pls; show r.places.length ≤ _; omega⟩
    · rcases List.mem_cons.1 hc' with rfl | hc'
      · rw [all_add]; have := h.kids c hc; omega
      · have := h.kids c' (hm c' hc'); omega
    · rcases List.mem_cons.1 hc' with rfl | hc'
      · cases e
      · have := h.itms c' (hm c' hc') s ln is e; omega
    · rcases List.mem_cons.1 hc' with rfl | hc'
      · exact h.sign c hc
      · exact h.sign c' (hm c' hc')
theorem Pb.Sz.mono {N i N' i' : Nat} {r : Pb.Rd} (h : Pb.Sz N i r) (hN : N ≤ N') (hi : i ≤ i') : Pb.Sz N' i' r :=
  ⟨h.pos, h.few, fun c hc => Nat.le_trans (h.kids c hc) hN, fun c hc s ln is e => Nat.le_trans (h.itms c hc s ln is e) hN, h.sign, Nat.le_trans h.lines hi, h.text, h.line, Nat.le_trans h.pls hN⟩
theorem Pb.Sz.leaf {N i i' : Nat} {r : Pb.Rd} (h : Pb.Sz N i r) (l : Pb.Of) (h1 : l.lines.length ≤ i') (h2 : ∀ s ∈ l.lines, s.length ≤ 300010) (h3 : l.line ≤ 1000000) : Pb.Sz N i' { r with leaf := l } :=
  ⟨h.pos, h.few, h.kids, h.itms, h.sign, h1, h2, h3, h.pls⟩
theorem Pb.Sz.noLeaf {N i : Nat} {r : Pb.Rd} (h : Pb.Sz N i r) (i' : Nat) : Pb.Sz N i' { r with leaf := Pb.noLeaf } := h.leaf Pb.noLeaf (Nat.zero_le _) (fun s hs => by cases hs) (Nat.zero_le _)
theorem closeLeaf_sz {N i : Nat} {r : Pb.Rd} (h : Pb.Sz N i r) (i' : Nat) : Pb.Sz (N + 1) i' (Pb.closeLeaf r) := by
  unfold Pb.closeLeaf
  split
  · exact (addTip_sz h _).noLeaf i'
  · split
    · have h1 := (addTip_sz h (Pb.fenceTree r.leaf)).noLeaf i'
      refine ⟨h1.pos, h1.few, h1.kids, h1.itms, h1.sign, h1.lines, h1.text, h1.line, ?_⟩
      have := h.pls
      show (if r.row.length = 1 then r.places ++ [r.leaf.place] else r.places).length ≤ _
      split
      · simp; omega
      · omega
    · exact (h.noLeaf i').mono (by omega) (Nat.le_refl _)

section
variable {w w' : World} {B R : Nat} {E : Nat → Option Part} {rv lv pv : Value} {M : Mm} {d x : MC} {o : List MC} {l : Pb.Of} {ps : List Bk.Pl}
/-- the innermost container is taken out of the row: its rows stay as they are -/
theorem pop_done (h : PAt w B E R rv lv pv M (d :: x :: o) l ps) {g c : Nat} (hg : rv = .slice (some ⟨g, 0, none⟩) (o.length + 1 + 1) c) :
    ∃ M', (∀ b a, M b = some a → M' b = some a) ∧ PAt (w.setCell ⟨R, 0, none⟩ (.slice (some ⟨g, 0, none⟩) (o.length + 1) c)) B E R (.slice (some ⟨g, 0, none⟩) (o.length + 1) c) lv pv M' (x :: o) l ps ∧
      (∃ A n k, d.kv = .slice A n k) ∧ TM M' d.c.tree [.int .i64 (d.c.kind : Int), .int .i64 0, .string ⟨#[]⟩, .string ⟨#[]⟩, .int .i64 (d.c.line : Int), d.kv] := by
  subst hg
  obtain ⟨hR1, _, hRh⟩ := h.hp.base (k := .rd) rfl
  have m1 := h.hp.uput (k := .rd) (.blk R ⟨rdCells (.slice (some ⟨g, 0, none⟩) (o.length + 1) c) lv pv l⟩ 138) rfl (grown_set w ⟨R, 0, none⟩ (.slice (some ⟨g, 0, none⟩) (o.length + 1) c)) ⟨hR1, heap_setCell_same w R 0 _ _ _ hRh⟩ (fun _ e => .inl e)
  have ho := m1.own (k := .row) ((upd_other _ _ (by simp)).trans rfl)
  have hpop := ownsRow_pop (xs := rowCells (x :: o)) (last := contCells d) (by rw [rowCells_len]; rfl) ho
  have m2 := m1.uput (k := .row) (.row 167 9 (.slice (some ⟨g, 0, none⟩) (o.length + 1) c) (o.length + 1) (rowCells (x :: o))) ((upd_other _ _ (by simp)).trans rfl) (World.grownBy.refl _ _) hpop (fun _ e => .inl e)
  obtain ⟨M1, h1, h2, ⟨cs', h3, h3'⟩, h4⟩ := retire_itm (o := x :: o) (x := d) (M := M) m2 (by
    rw [upd_other _ _ (by simp), upd_other _ _ (by simp)]
    show (lev (d :: x :: o) (x :: o).length).bind itmRow = _
    rw [lev_top]; rfl) (fun b => by rw [upd_other _ _ (by simp), upd_other _ _ (by simp)]; rfl) h.old (h.good d List.mem_cons_self)
  have hk : gone (upd (upd (pparts E R (.slice (some ⟨g, 0, none⟩) (o.length + 1 + 1) c) lv pv M (d :: x :: o) l ps) .rd (.blk R ⟨rdCells (.slice (some ⟨g, 0, none⟩) (o.length + 1) c) lv pv l⟩ 138)) .row (.row 167 9 (.slice (some ⟨g, 0, none⟩) (o.length + 1) c) (o.length + 1) (rowCells (x :: o)))) M1 (.itm (x :: o).length) (.kid (x :: o).length) = some (.row 149 6 d.kv d.c.all.length (d.css.flatten ++ lstCells d.lv d.c.lst)) := by
    rw [gone_ne (fun b e => by cases e) (by simp), upd_other _ _ (by simp), upd_other _ _ (by simp)]
    show (lev (d :: x :: o) (x :: o).length).map kidRow = _
    rw [lev_top]; rfl
  obtain ⟨kA, kc, hkv, hkc⟩ := own_shape (h4.own hk)
  rw [hkv, ← h3'] at hk
  obtain ⟨M2, g1, g2, g3, g4⟩ := retire (M := M1) h4 hk (fun b e => by cases e) (fun b => rfl) h2
  refine ⟨M2, fun b a e => g1 b a (h1 b a e), ⟨g4.same fun j => ?_, fun y hy => (h.good y (List.mem_cons_of_mem _ hy)).mono (fun b a e => g1 b a (h1 b a e)), g2⟩, ⟨kA, _, kc, hkv⟩, ?_⟩
  · cases j with
    | kid i =>
      by_cases hi : i = (x :: o).length
      · subst hi
        rw [gone_at (fun b e => by cases e)]
        show (lev (x :: o) (x :: o).length).map kidRow = _
        rw [lev_none (Nat.le_refl _)]; rfl
      · rw [gone_ne (fun b e => by cases e) (by simpa using hi), gone_ne (fun b e => by cases e) (by simp), upd_other _ _ (by simp), upd_other _ _ (by simp)]
        show (lev (x :: o) i).map kidRow = (lev (d :: x :: o) i).map kidRow
        rw [lev_one d (x :: o) hi]
    | itm i =>
      by_cases hi : i = (x :: o).length
      · subst hi
        rw [gone_ne (fun b e => by cases e) (by simp), gone_at (fun b e => by cases e)]
        show (lev (x :: o) (x :: o).length).bind itmRow = _
        rw [lev_none (Nat.le_refl _)]; rfl
      · rw [gone_ne (fun b e => by cases e) (by simp), gone_ne (fun b e => by cases e) (by simpa using hi), upd_other _ _ (by simp), upd_other _ _ (by simp)]
        show (lev (x :: o) i).bind itmRow = (lev (d :: x :: o) i).bind itmRow
        rw [lev_one d (x :: o) hi]
    | row => rw [gone_ne (fun b e => by cases e) (by simp), gone_ne (fun b e => by cases e) (by simp), upd_same]; rfl
    | rd => rw [gone_ne (fun b e => by cases e) (by simp), gone_ne (fun b e => by cases e) (by simp), upd_other _ _ (by simp), upd_same]; rfl
    | old b => rfl
    | _ => rw [gone_ne (fun b e => by cases e) (by simp), gone_ne (fun b e => by cases e) (by simp), upd_other _ _ (by simp), upd_other _ _ (by simp)]; rfl
  · rw [hkv]
    unfold Pb.Cn.tree TM
    exact ⟨kA, kc, cs', rfl, hkc, g3, TMs_mono g1 h3⟩
end
end Go.Proofs.YtmmgfoepfapnkaaGreatDoor

namespace Go.Proofs.YtmmgfoepfapnkaaGreatDoor
open Go.RowKit
attribute [local go_sem] canOp readsAs readUpon

theorem map_cons {row : List MC} {c : Pb.Cn} {o : List Pb.Cn} (h : row.map (·.c) = c :: o) : ∃ x t, row = x :: t ∧ x.c = c ∧ t.map (·.c) = o := by
  cases row with
  | nil => cases h
  | cons x t => rw [List.map_cons] at h; exact ⟨x, t, rfl, (List.cons.inj h).1, (List.cons.inj h).2⟩
theorem pcloseLeaf (w : World) (B : Nat) (E : Nat → Option Part) (R : Nat) (r : Pb.Rd) (h : PS w B E R r) {N i : Nat} (hs : Pb.Sz N i r) (hN : N ≤ 1000000000) (hi : i ≤ 100000) :
    Calls Tryz.prog 123 #[adr R] w fun e w' => e = .returned (.tuple #[]) ∧ PS w' B E R (Pb.closeLeaf r) ∧ Below B w w' := by
  obtain ⟨rv, lv, pv, M, row, hrow, hA⟩ := h
  obtain ⟨hj1, hj2⟩ := hs.joins hi
  cases hr : r.row with
  | nil => have := hs.pos; rw [hr] at this; simp at this
  | cons c o =>
    rw [hr] at hrow
    obtain ⟨x, t, rfl, hx, ht⟩ := map_cons hrow
    have hlen : t.length ≤ 1000 := by
      have := hs.few
      rw [hr, ← ht] at this
      simp at this; omega
    have hkids : x.c.all.length ≤ 1000000000 := by
      have := hs.kids c (by rw [hr]; exact List.mem_cons_self)
      rw [hx]; omega
    have hrl : r.row.length = t.length + 1 := by rw [hr, ← ht]; simp
    by_cases h4 : r.leaf.kind = 4
    · refine (pcl_para w B E R rv lv pv M x t r.leaf r.places hA h4 hlen hkids (by have := hs.lines; omega) hj1).mono fun e w' ⟨e1, ⟨M', x', hx', hA'⟩, hb⟩ => ⟨e1, ⟨rv, .slice none 0 0, pv, M', x' :: t, ?_, ?_⟩, hb⟩
      · unfold Pb.closeLeaf; rw [if_pos h4]; simp [Pb.addTip, hr, hx', hx, ht]
      · unfold Pb.closeLeaf; rw [if_pos h4]; simp only [Pb.addTip, hr]; exact hA'
    · by_cases h7 : r.leaf.kind = 7
      · refine (pcl_fence w B E R rv lv pv M x t r.leaf r.places hA h7 hlen hkids (by have := hs.lines; omega) hj2 (by have := hs.line; omega) (by have := hs.pls; omega) _ rfl).mono fun e w' ⟨e1, ⟨pv', M', x', hx', hA'⟩, hb⟩ => ⟨e1, ⟨rv, .slice none 0 0, pv', M', x' :: t, ?_, ?_⟩, hb⟩
        · unfold Pb.closeLeaf; rw [if_neg h4, if_pos h7]; simp [Pb.addTip, hr, hx', hx, ht]
        · unfold Pb.closeLeaf; rw [if_neg h4, if_pos h7]
          have e2 : (if r.row.length = 1 then r.places ++ [r.leaf.place] else r.places) = if t.length = 0 then r.places ++ [r.leaf.place] else r.places := by
            by_cases h0 : t.length = 0
            · rw [if_pos h0, if_pos (by omega)]
            · rw [if_neg h0, if_neg (by omega)]
          show PAt w' B E R rv _ pv' M' (x' :: t) Pb.noLeaf (if r.row.length = 1 then r.places ++ [r.leaf.place] else r.places)
          rw [e2]; exact hA'
      · refine (pcl_none w B E R rv lv pv M (x :: t) r.leaf r.places hA h4 h7).mono fun e w' ⟨e1, hA', hb⟩ => ⟨e1, ⟨rv, .slice none 0 0, pv, M, x :: t, ?_, ?_⟩, hb⟩
        · unfold Pb.closeLeaf; rw [if_neg h4, if_neg h7]; rw [hrow, ← hr]
        · unfold Pb.closeLeaf; rw [if_neg h4, if_neg h7]; exact hA'
theorem give_sz {N i : Nat} {d c : Pb.Cn} {o : List Pb.Cn} {l : Pb.Of} {ps : List Bk.Pl} (h : Pb.Sz N i ⟨d :: c :: o, l, ps⟩) : Pb.Sz (N + 1) i ⟨Pb.give d c :: o, l, ps⟩ := by
  have hc : c ∈ d :: c :: o := by simp
  have hm : ∀ c' ∈ o, c' ∈ d :: c :: o := fun c' h => by simp [h]
  have hk := h.kids c hc
  have hi := h.itms c hc
  have hall : c.kids.length ≤ c.all.length := by unfold Pb.Cn.all; simp
  have h1 : ((Pb.give d c).all.length ≤ N + 1 ∧ (∀ s ln is, (Pb.give d c).lst = some (s, ln, is) → is.length ≤ N + 1)) ∧ (Pb.give d c).kind = c.kind ∧ (Pb.give d c).sign = c.sign := by
    unfold Pb.give
    split
    · have hone : ∀ (l : List Bk.Tree) (t : Bk.Tree), (l ++ [t]).length = l.length + 1 := fun l t => by simp
      have hnew : (Pb.Cn.addItem d c = { c with kids := c.all, lst := some (d.sign, d.line, [d.tree]) }) → ((Pb.Cn.addItem d c).all.length ≤ N + 1 ∧ (∀ s ln is, (Pb.Cn.addItem d c).lst = some (s, ln, is) → is.length ≤ N + 1)) ∧ (Pb.Cn.addItem d c).kind = c.kind ∧ (Pb.Cn.addItem d c).sign = c.sign := fun e => by
        rw [e]
        refine ⟨⟨?_, fun s ln is e => by cases e; simp⟩, rfl, rfl⟩
        have := hone c.all (.mk 2 0 [] [] d.line [d.tree])
        show (c.all ++ [_]).length ≤ _
        omega
      cases hl : c.lst with
      | none => exact hnew (by unfold Pb.Cn.addItem; rw [hl])
      | some t =>
        obtain ⟨s, ln, is⟩ := t
        have h3 := hi s ln is hl
        have h4 : c.all.length = c.kids.length + 1 := by unfold Pb.Cn.all; rw [hl]; simp [Pb.listTree]
        by_cases hs : s = d.sign
        · have e : Pb.Cn.addItem d c = { c with lst := some (s, ln, is ++ [d.tree]) } := by unfold Pb.Cn.addItem; rw [hl]; exact if_pos hs
          rw [e]
          refine ⟨⟨?_, fun s ln is e => by cases e; rw [hone]; omega⟩, rfl, rfl⟩
          have := hone c.kids (.mk 2 0 [] [] ln (is ++ [d.tree]))
          show (c.kids ++ [_]).length ≤ _
          omega
        · exact hnew (by unfold Pb.Cn.addItem; rw [hl]; exact if_neg hs)
    · exact ⟨⟨by rw [all_add]; omega, fun s ln is e => by cases e⟩, rfl, rfl⟩
  have hp := h.pos; have hf := h.few
  simp only [List.length_cons] at hf
  refine ⟨by simp, by simp only [List.length_cons]; omega, fun c' hc' => ?_, fun c' hc' s ln is e => ?_, fun c' hc' e => ?_, h.lines, h.text, h.line, by have := h.pls; exact Nat.le_trans this (by omega)⟩
  · rcases List.mem_cons.1 hc' with rfl | hc'
    · exact h1.1.1
    · have := h.kids c' (hm c' hc'); omega
  · rcases List.mem_cons.1 hc' with rfl | hc'
    · exact h1.1.2 s ln is e
    · have := h.itms c' (hm c' hc') s ln is e; omega
  · rcases List.mem_cons.1 hc' with rfl | hc'
    · rw [h1.2.2]; rw [h1.2.1] at e; exact h.sign c hc e
    · exact h.sign c' (hm c' hc') e
theorem pops_sz : ∀ (n : Nat) {N i : Nat} {row : List Pb.Cn} {l : Pb.Of} {ps : List Bk.Pl}, Pb.Sz N i ⟨row, l, ps⟩ → Pb.Sz (N + n) i ⟨Pb.pops n row, l, ps⟩
  | 0, _, _, _, _, _, h => h
  | _ + 1, _, _, [], _, _, h => absurd h.pos (by simp)
  | n + 1, _, _, [c], _, _, h => h.mono (by omega) (Nat.le_refl _)
  | n + 1, N, _, d :: c :: o, _, _, h => (pops_sz n (give_sz h)).mono (by omega) (Nat.le_refl _)
theorem pops_len : ∀ (n : Nat) (row : List Pb.Cn), n < row.length → (Pb.pops n row).length = row.length - n
  | 0, _, _ => rfl
  | _ + 1, [], h => by simp at h
  | _ + 1, [c], h => by simp at h
  | n + 1, d :: c :: o, h => by
    have := pops_len n (Pb.give d c :: o) (by simpa using h)
    rw [Pb.pops, this]; simp
theorem pops_more : ∀ (n : Nat) (row : List Pb.Cn), n + 1 < row.length → ∃ d c o, Pb.pops n row = d :: c :: o ∧ Pb.pops (n + 1) row = Pb.give d c :: o
  | 0, [], h => by simp at h
  | 0, [c], h => by simp at h
  | 0, d :: c :: o, _ => ⟨d, c, o, rfl, rfl⟩
  | _ + 1, [], h => by simp at h
  | _ + 1, [c], h => by simp at h
  | n + 1, d :: c :: o, h => pops_more n (Pb.give d c :: o) (by simpa using h)
theorem closeTo_sz {N i : Nat} {r : Pb.Rd} (h : Pb.Sz N i r) (k i' : Nat) : Pb.Sz (N + 42) i' (Pb.closeTo k r) := by
  have h1 := closeLeaf_sz h i'
  have h2 := pops_sz ((Pb.closeLeaf r).row.length - k) (row := (Pb.closeLeaf r).row) (l := (Pb.closeLeaf r).leaf) (ps := (Pb.closeLeaf r).places) h1
  exact h2.mono (by have := h1.few; omega) (Nat.le_refl _)

/-- a container's nine cells, in a block -/
abbrev contArr (d : Pb.Cn) (A : Option Addr) (n k : Nat) : Array Value := #[.int .i64 (d.kind : Int), .int .i64 0, .string ⟨#[]⟩, .string ⟨#[]⟩, .int .i64 (d.line : Int), .slice A n k, .int .u8 (d.sign.toNat : Int), .int .i64 (d.col : Int), .int .u8 (d.listSign.toNat : Int)]
theorem paddItem (w : World) (B : Nat) (E : Nat → Option Part) (R : Nat) (rv lv pv : Value) (M : Mm) (x : MC) (o : List MC) (l : Pb.Of) (ps : List Bk.Pl) (h : PAt w B E R rv lv pv M (x :: o) l ps) (g c : Nat) (hg : rv = .slice (some ⟨g, 0, none⟩) (o.length + 1) c)
    (d : Pb.Cn) (dA : Option Addr) (dn dk : Nat) (ht : TM M d.tree [.int .i64 (d.kind : Int), .int .i64 0, .string ⟨#[]⟩, .string ⟨#[]⟩, .int .i64 (d.line : Int), .slice dA dn dk]) (hsg : d.sign ≠ 0) (hlen : o.length ≤ 1000) (hkids : x.c.all.length ≤ 1000000000) (his : ∀ s ln is, x.c.lst = some (s, ln, is) → is.length ≤ 1000000000) :
    Calls Tryz.prog 125 #[.pointer (some ⟨g, o.length * 9, none⟩), .agg (contArr d dA dn dk)] w fun e w' => e = .returned (.tuple #[]) ∧ (∃ M' x', x'.c = Pb.Cn.addItem d x.c ∧ PAt w' B E R rv lv pv M' (x' :: o) l ps) ∧ Below B w w' := by
  have hnew := fun hne => pitem_new w B E R rv lv pv M x o l ps h g c hg d.sign d.line hne d.tree (d.kind : Int) 0 [] [] dA dn dk ht (d.col : Int) d.listSign hlen hkids
  cases hl : x.c.lst with
  | none =>
    have e : Pb.Cn.addItem d x.c = { x.c with kids := x.c.all, lst := some (d.sign, d.line, [d.tree]) } := by unfold Pb.Cn.addItem; rw [hl]
    rw [e]
    exact hnew (by unfold Pb.Cn.listSign; rw [hl]; exact fun e => hsg e.symm)
  | some q =>
    obtain ⟨s, ln, is⟩ := q
    by_cases hs : s = d.sign
    · have e : Pb.Cn.addItem d x.c = { x.c with lst := some (s, ln, is ++ [d.tree]) } := by unfold Pb.Cn.addItem; rw [hl]; exact if_pos hs
      rw [e]
      subst hs
      exact (pitem_same w B E R rv lv pv M x o l ps h g c hg d.sign ln is hl d.tree (d.kind : Int) 0 (d.line : Int) [] [] dA dn dk ht (d.col : Int) d.listSign hlen hkids (his _ _ _ hl)).mono fun e w' ⟨e1, ⟨x', hx', hA'⟩, hb⟩ => ⟨e1, ⟨M, x', hx', hA'⟩, hb⟩
    · have e : Pb.Cn.addItem d x.c = { x.c with kids := x.c.all, lst := some (d.sign, d.line, [d.tree]) } := by unfold Pb.Cn.addItem; rw [hl]; exact if_neg hs
      rw [e]
      exact hnew (by unfold Pb.Cn.listSign; rw [hl]; exact hs)

/-- a container's copy -/
def CbS (cb : Nat) (cs : Array Value) (u : World) : Prop := u.heap[cb]? = some (.cells cs 167 (0, 0))
/-- the reader's row is v -/
def RowS (R : Nat) (v : Value) (u : World) : Prop := u.cell? ⟨R, 0, none⟩ = some v
set_option maxHeartbeats 2000000 in
set_option maxRecDepth 100000 in
theorem pcloseTo (w : World) (B : Nat) (E : Nat → Option Part) (R : Nat) (r : Pb.Rd) (h : PS w B E R r) {N i : Nat} (hs : Pb.Sz N i r) (hN : N ≤ 900000000) (hi : i ≤ 100000) (k : Nat) (hk : 1 ≤ k) :
    Calls Tryz.prog 96 #[adr R, .int .i64 (k : Int)] w fun e w' => e = .returned (.tuple #[]) ∧ PS w' B E R (Pb.closeTo k r) ∧ Below B w w' := by
  have hcl := pcloseLeaf w B E R r h hs (by omega) hi
  have hs1 := closeLeaf_sz hs 0
  have hto : Pb.closeTo k r = { Pb.closeLeaf r with row := Pb.pops ((Pb.closeLeaf r).row.length - k) (Pb.closeLeaf r).row } := rfl
  rw [hto]
  clear hto
  obtain ⟨q, hq⟩ : ∃ q, Pb.closeLeaf r = q := ⟨_, rfl⟩
  rw [hq] at hcl hs1 ⊢
  obtain ⟨L, hL⟩ : ∃ L, q.row.length = L := ⟨_, rfl⟩
  have hL1 : 1 ≤ L ∧ L ≤ 41 := by rw [← hL]; exact ⟨hs1.pos, hs1.few⟩
  rw [hL]
  have hsz : ∀ j, Pb.Sz (N + 1 + j) 0 ⟨Pb.pops j q.row, q.leaf, q.places⟩ := fun j => pops_sz j hs1
  replace hcl := Lib.hid hcl
  replace hsz := Lib.hid hsz
  replace hL := Lib.hid hL
  go_enter Tryz.func96, Tryz.ntmps96
  go_wp2_with fail
  refine hcl.out.mono ?_
  rintro e w1 ⟨rfl, h1, hb1⟩
  have h1' := Lib.hid h1
  have hb1' := Lib.hid hb1
  clear h1 hb1 hs1
  go_wp2_with fail
  go_loopw [4] (fun _ wr => ∃ j : Nat, j ≤ L - k ∧ Hid (PS wr B E R { q with row := Pb.pops j q.row }) ∧ Hid (Below B w wr)) (fun _ wr => match wr.cell? ⟨R, 0, none⟩ with
    | some (.slice _ n _) => n
    | _ => 0)
  case atStart => exact ⟨0, Nat.zero_le _, h1', hb1'⟩
  case round =>
    obtain ⟨j, hj, hP, hb⟩ := hrel
    obtain ⟨rv, lv, pv, M, row, hrow, hA⟩ := hP.out
    simp only at hrow hA
    have hplen := pops_len j q.row (by rw [hL.out]; omega)
    rw [hL.out] at hplen
    have hsj := hsz.out j
    rcases Nat.lt_or_eq_of_le hj with hlt | hje
    · obtain ⟨d, c, o, hp1, hp2⟩ := pops_more j q.row (by rw [hL.out]; omega)
      rw [hp1] at hrow hplen hsj
      obtain ⟨x, t1, rfl, hx, ht1⟩ := map_cons hrow
      obtain ⟨y, t, rfl, hy, ht⟩ := map_cons ht1
      obtain ⟨g, cc, hrv, hcc, hgR, hgB, hgw, hgf, hgc⟩ := row_facts hA
      obtain ⟨hR1, hR2, hRf, c0, _⟩ := rd_facts hA
      have htl : t.length + 2 = L - j := by
        have : t.length = o.length := by rw [← ht]; simp
        simp only [List.length_cons] at hplen; omega
      obtain ⟨M2, hm2, hA2, ⟨dA, dn, dk, hdk⟩, hTM⟩ := pop_done hA hrv
      clear hA2 hTM hm2 M2
      obtain ⟨n, hn⟩ : ∃ n, t.length = n := ⟨_, rfl⟩
      have hpop := fun (wz : World) (E' : Nat → Option Part) (hz : PAt wz B E' R rv lv pv M (x :: y :: t) q.leaf q.places) => pop_done hz hrv
      have hla := fun wz h => pb_plast_any wz B E R rv lv pv M x (y :: t) q.leaf q.places h g cc hrv (by simp; omega)
      have hla2 := fun (E' : Nat → Option Part) M' wz h => pb_plast_any wz B E' R (.slice (some ⟨g, 0, none⟩) (t.length + 1) cc) lv pv M' y t q.leaf q.places h g cc rfl (by omega)
      have hsg := hsj.sign d (by simp)
      have hkd := hsj.kids c (by simp)
      have hit := hsj.itms c (by simp)
      have hadd := fun (E' : Nat → Option Part) M' wz h cs ht => padd_any wz B E' R (.slice (some ⟨g, 0, none⟩) (t.length + 1) cc) lv pv M' y t q.leaf q.places h g cc rfl d.tree cs ht (by omega) (by rw [hy]; omega)
      have hitm := fun (E' : Nat → Option Part) M' wz h hsg ht => paddItem wz B E' R (.slice (some ⟨g, 0, none⟩) (t.length + 1) cc) lv pv M' y t q.leaf q.places h g cc rfl d dA dn dk ht hsg (by omega) (by rw [hy]; omega) (fun s ln is e => by rw [hy] at e; have := hit s ln is e; omega)
      have hc9 := fun (j : Nat) (u : Value) (hj : (contArr d dA dn dk)[j]? = some u) => hgc j u (by
        have e : contCells x = (contArr d dA dn dk).toList := by unfold contCells; rw [hx, hdk]
        rw [e]; simpa using hj)
      rw [hrv] at c0
      rw [hx] at hpop
      simp only [List.length_cons] at c0 hcc hla hc9
      rw [hn] at c0 hcc hla hla2 hadd hitm hc9 hpop htl
      rw [hy] at hadd hitm
      have k0 := hc9 0 _ rfl
      have k1 := hc9 1 _ rfl
      have k2 := hc9 2 _ rfl
      have k3 := hc9 3 _ rfl
      have k4 := hc9 4 _ rfl
      have k5 := hc9 5 _ rfl
      have k6 := hc9 6 _ rfl
      have k7 := hc9 7 _ rfl
      have k8 := hc9 8 _ rfl
      obtain ⟨P, hPd⟩ : ∃ P, (n + 1) * 9 = P := ⟨_, rfl⟩
      rw [hPd] at k0 k1 k2 k3 k4 k5 k6 k7 k8 hla
      rw [Nat.add_zero] at k0
      have hkn : (k : Int) < (n : Int) + 1 + 1 := by omega
      replace hA := Lib.hid hA
      replace hla := Lib.hid hla
      replace hla2 := Lib.hid hla2
      replace hadd := Lib.hid hadd
      replace hitm := Lib.hid hitm
      replace hpop := Lib.hid hpop
      replace hsg := Lib.hid hsg
      replace hrv := Lib.hid hrv
      replace hdk := Lib.hid hdk
      replace hp1 := Lib.hid hp1
      replace hp2 := Lib.hid hp2
      replace hx := Lib.hid hx
      replace hy := Lib.hid hy
      replace ht := Lib.hid ht
      replace hn := Lib.hid hn
      have htl1 : n + 2 ≤ L - j := by omega
      have htl2 : L - j ≤ n + 2 := by omega
      clear hgc hgf hc9 hkd hit hrow ht1 hsj htl hplen
      go_wp2_with fail
      refine (hla.out _ hA.out).mono ?_
      rintro e w2 ⟨rfl, hb2⟩
      have hgl := fun (j : Nat) => hb2.cell (p := ⟨g, j, none⟩) hgw
      rw [← hgl] at k0 k1 k2 k3 k4 k5 k6 k7 k8
      have hA2 := Lib.hid (PAt.mk (hA.out.hp.ext hb2) hA.out.good hA.out.old)
      have hB2 := Lib.hid (hb.out.trans (hb2.mono (by omega)))
      have hc2 : w2.cell? ⟨R, 0, none⟩ = _ := (hb2.cell (p := ⟨R, 0, none⟩) hR2).trans c0
      have hz2 := hb2.size
      clear hgl c0
      go_wp2_with fail
      have hbc := ext_alloc w2 (.cells (contArr d dA dn dk) 167)
      have hA3 := hA2.out.ext_in hbc (a := .blk w2.heap.size (contArr d dA dn dk) 167) ⟨by omega, heap_alloc_new w2 _⟩ (fun g hg => by cases hg; exact Nat.le_refl _)
      have hB3 := hB2.out.trans (hbc.mono (by omega))
      have hc3 : (w2.alloc (.cells (contArr d dA dn dk) 167)).cell? ⟨R, 0, none⟩ = _ := (hbc.cell (p := ⟨R, 0, none⟩) (by show R < w2.heap.size; omega)).trans hc2
      obtain ⟨E', hE'⟩ : ∃ E', shiftE (.blk w2.heap.size (contArr d dA dn dk) 167) E = E' := ⟨_, rfl⟩
      rw [hE'] at hA3
      have hE0 : E' 0 = some (.blk w2.heap.size (contArr d dA dn dk) 167) := by rw [← hE']; rfl
      obtain ⟨cb, hcb⟩ : ∃ cb, w2.heap.size = cb := ⟨_, rfl⟩
      rw [hcb] at hE0
      generalize w2.alloc (.cells (contArr d dA dn dk) 167) = w3 at hA3 hB3 hc3 ⊢
      rw [hcb]
      have hR3 := rd_facts hA3
      obtain ⟨_, hR4, hRf3, _⟩ := hR3
      obtain ⟨M4, hm4, hA4, _, hTM⟩ := hpop.out w3.drew E' (PAt.mk (hA3.hp.ext (ext_drew w3)) hA3.good hA3.old)
      rw [hdk.out] at hTM
      have hB4 := Lib.hid (hB3.drew.setCell (p := ⟨R, 0, none⟩) hR1 (.slice (some ⟨g, 0, none⟩) (n + 1) cc))
      have hc3' : w3.drew.cell? ⟨R, 0, none⟩ = _ := hc3
      have hRf3' : ∀ j, w3.drew.frozen? ⟨R, j, none⟩ = false := hRf3
      have hR4' : R < w3.drew.heap.size := hR4
      replace hA4 := Lib.hid hA4
      replace hTM := Lib.hid hTM
      replace hE' := Lib.hid hE'
      replace hcb := Lib.hid hcb
      clear hc3 hRf3 hR4 hA3 hB3 hbc k0 k1 k2 k3 k4 k5 k6 k7 k8 hc2
      have hcc1 : n + 1 ≤ cc := by omega
      refine wp_region_bar 14 [(true, 0), (true, 1), (true, 2), (true, 3), (true, 4), (true, 5), (true, 6), (true, 7), (true, 8), (true, 9), (true, 10), (true, 11), (false, 12), (false, 13)] 0 .fin (RowS R (.slice (some ⟨g, 0, none⟩) (n + 1 + 1) cc)) hc3' (by kernel_rfl) (by kernel_rfl) (by kernel_rfl) (fun _ _ d _ _ h => by cases d <;> exact h) ?_
      generalize w3.drew = w4 at hA4 hB4 hc3' hRf3' hR4' ⊢
      repeat (first | refine wpBar_move rfl ?_ | (refine wpBar_cons rfl ?_; intro K hK; go_simp; refine hK _ _ _ ?_; clear hK K))
      refine wpBar_read (.slice (some ⟨g, 0, none⟩) (n + 1 + 1) cc) rfl rfl hc3' (fun u hu => by unfold RowS at hu; go_simp) ?_
      repeat (first | refine wpBar_move rfl ?_ | (refine wpBar_cons rfl ?_; intro K hK; go_simp; refine hK _ _ _ ?_; clear hK K))
      refine wpBar_read (.slice (some ⟨g, 0, none⟩) (n + 1 + 1) cc) rfl rfl hc3' (fun u hu => by unfold RowS at hu; go_simp) ?_
      have hnl : n ≤ 1000 := by omega
      have hw1 : IntKind.i64.wrap ((n : Int) + 1) = (n : Int) + 1 := by unfold IntKind.wrap; simp [IntKind.bits, IntKind.signed]; omega
      have hn2 : (0 : Int) ≤ (n : Int) + 1 := by omega
      have hn3 : (n : Int) + 1 ≤ (cc : Int) := by omega
      repeat (first | refine wpBar_move rfl ?_ | (refine wpBar_cons rfl ?_; intro K hK; go_simp; refine hK _ _ _ ?_; clear hK K))
      refine wpBar_cons rfl ?_
      intro K hK
      go_simp
      refine can_same (S := RowS R (.slice (some ⟨g, 0, none⟩) (n + 1 + 1) cc)) hc3' (hK _ _ _ ?_)
      clear hK K
      refine wpBar_cons rfl ?_
      intro K hK
      go_simp
      refine can_same (S := RowS R (.slice (some ⟨g, 0, none⟩) (n + 1 + 1) cc)) hc3' (hK _ _ _ ?_)
      clear hK K
      refine wpBar_bar rfl rfl ?_
      go_simp
      refine ⟨fun _ => True, trivial, wpT_fin ?_⟩
      generalize w4.setCell ⟨R, 0, none⟩ (.slice (some ⟨g, 0, none⟩) (n + 1) cc) = w5 at hA4 hB4 ⊢
      clear hc3' hRf3' hR4'
      obtain ⟨hcb1, hcb2, hcbh⟩ := hA4.out.hp.base (k := .ext 0) hE0
      have i0 := cell_of hcbh (j := 0) rfl
      have hS0 : CbS cb (contArr d dA dn dk) w5.drew := hcbh
      have hAd := Lib.hid (PAt.mk (hA4.out.hp.ext (ext_drew w5)) hA4.out.good hA4.out.old)
      have hBd := Lib.hid hB4.out.drew
      have hSr : ∀ u, CbS cb (contArr d dA dn dk) u → (u.cell? ⟨cb, 0, none⟩ = some (.int .i64 (d.kind : Int)) ∧ u.cell? ⟨cb, 1, none⟩ = some (.int .i64 0) ∧ u.cell? ⟨cb, 2, none⟩ = some (.string ⟨#[]⟩) ∧ u.cell? ⟨cb, 3, none⟩ = some (.string ⟨#[]⟩) ∧ u.cell? ⟨cb, 4, none⟩ = some (.int .i64 (d.line : Int)) ∧ u.cell? ⟨cb, 5, none⟩ = some (.slice dA dn dk)) ∧
          u.cell? ⟨cb, 6, none⟩ = some (.int .u8 (d.sign.toNat : Int)) ∧ u.cell? ⟨cb, 7, none⟩ = some (.int .i64 (d.col : Int)) ∧ u.cell? ⟨cb, 8, none⟩ = some (.int .u8 (d.listSign.toNat : Int)) := fun u hu =>
        ⟨⟨cell_of hu rfl, cell_of hu rfl, cell_of hu rfl, cell_of hu rfl, cell_of hu rfl, cell_of hu rfl⟩, cell_of hu rfl, cell_of hu rfl, cell_of hu rfl⟩
      have hfin : ∀ (w8 : World) (M5 : Mm) (x' : MC), x'.c = Pb.give d c → PAt w8 B E' R (.slice (some ⟨g, 0, none⟩) (n + 1) cc) lv pv M5 (x' :: t) q.leaf q.places → PS w8 B E R { q with row := Pb.pops (j + 1) q.row } ∧ w8.cell? ⟨R, 0, none⟩ = some (.slice (some ⟨g, 0, none⟩) (n + 1) cc) := by
        intro w8 M5 x' hx' hA8
        obtain ⟨_, _, _, c8, _⟩ := rd_facts hA8
        rw [← hE'.out] at hA8
        refine ⟨⟨_, lv, pv, M5, x' :: t, ?_, hA8.ext_out⟩, c8⟩
        show (x' :: t).map (·.c) = Pb.pops (j + 1) q.row
        rw [hp2.out, List.map_cons, hx', ht.out]
      have hcr : wr.cell? ⟨R, 0, none⟩ = some (.slice (some ⟨g, 0, none⟩) (n + 1 + 1) cc) := by
        have := (rd_facts hA.out).2.2.2.1
        rw [this, hrv.out, List.length_cons, hn.out]
      replace hcr := Lib.hid hcr
      replace hfin := Lib.hid hfin
      replace hcbh := Lib.hid hcbh
      have hdrw : w5.drew.heap.size = w5.heap.size := rfl
      by_cases hk3 : d.kind = 3
      · have t3 : ((d.kind : Int) == 3) = true := by rw [beq_iff_eq]; omega
        have hgv : Pb.give d c = Pb.Cn.addItem d c := by unfold Pb.give; exact if_pos hk3
        have hsg' := hsg.out hk3
        go_wp2_with fail
        refine wp_region_can [(true, 0), (true, 2), (false, 1), (false, 3)] (CbS cb (contArr d dA dn dk)) hS0 (by kernel_rfl) (by kernel_rfl) (by kernel_rfl) (fun _ _ d _ _ h => by cases d <;> exact h) ?_
        generalize w5.drew = w6 at hS0 hAd hBd hdrw ⊢
        clear i0
        repeat (first | refine wpCan_move rfl ?_ | (refine wpCan_cons rfl ?_; intro K hK; go_simp; refine hK _ _ _ ?_; clear hK K))
        refine wpCan_read (.agg (contArr d dA dn dk)) rfl rfl hS0 (fun u hu => by obtain ⟨⟨v0, v1, v2, v3, v4, v5⟩, v6, v7, v8⟩ := hSr u hu; go_simp) ?_
        refine wpCan_cons rfl ?_
        intro K hK
        go_simp
        refine (hla2.out E' M4 w6 hAd.out).mono ?_
        rintro e w7 ⟨rfl, hb7⟩
        have hS7 : CbS cb (contArr d dA dn dk) w7 := (hb7.block _ (by omega)).trans hS0
        refine can_same hS7 (hK _ _ _ ?_)
        clear hK K
        have hA7 := PAt.mk (hAd.out.hp.ext hb7) hAd.out.good hAd.out.old
        refine wpCan_cons rfl ?_
        intro K hK
        go_simp
        refine (hitm.out E' M4 w7 hA7 hsg' hTM.out).mono ?_
        rintro e w8 ⟨rfl, ⟨M5, x', hx', hA8⟩, hb8⟩
        obtain ⟨hPS8, hc8⟩ := hfin.out w8 M5 x' (hx'.trans hgv.symm) hA8
        have hS8 : CbS cb (contArr d dA dn dk) w8 := (hA8.hp.base (k := .ext 0) hE0).2.2
        have hB8 := Lib.hid ((hBd.out.trans (hb7.mono (by have := hBd.out.size; omega))).trans hb8)
        replace hPS8 := Lib.hid hPS8
        replace hA8 := Lib.hid hA8
        replace hc8 := Lib.hid hc8
        refine can_same hS8 (hK _ _ _ ?_)
        clear hK K
        refine wpCan_nil ?_
        go_wp2_with fail
        go_roundw
        case rel => exact ⟨j + 1, by omega, hPS8, hB8⟩
        case measure => rw [hc8.out, hcr.out]; simp
      · have t3 : ((d.kind : Int) == 3) = false := by rw [beq_eq_false_iff_ne]; omega
        have hgv : Pb.give d c = c.add d.tree := by unfold Pb.give; exact if_neg hk3
        go_wp2_with fail
        refine wp_region_can [(true, 0), (true, 2), (true, 3), (false, 1), (false, 4)] (CbS cb (contArr d dA dn dk)) hS0 (by kernel_rfl) (by kernel_rfl) (by kernel_rfl) (fun _ _ d _ _ h => by cases d <;> exact h) ?_
        generalize w5.drew = w6 at hS0 hAd hBd hdrw ⊢
        clear i0
        repeat (first | refine wpCan_move rfl ?_ | (refine wpCan_cons rfl ?_; intro K hK; go_simp; refine hK _ _ _ ?_; clear hK K))
        refine wpCan_read (.agg #[.int .i64 (d.kind : Int), .int .i64 0, .string ⟨#[]⟩, .string ⟨#[]⟩, .int .i64 (d.line : Int), .slice dA dn dk]) rfl rfl hS0 (fun u hu => by obtain ⟨⟨v0, v1, v2, v3, v4, v5⟩, v6, v7, v8⟩ := hSr u hu; go_simp) ?_
        refine wpCan_cons rfl ?_
        intro K hK
        go_simp
        refine (hla2.out E' M4 w6 hAd.out).mono ?_
        rintro e w7 ⟨rfl, hb7⟩
        have hS7 : CbS cb (contArr d dA dn dk) w7 := (hb7.block _ (by omega)).trans hS0
        refine can_same hS7 (hK _ _ _ ?_)
        clear hK K
        have hA7 := PAt.mk (hAd.out.hp.ext hb7) hAd.out.good hAd.out.old
        refine wpCan_cons rfl ?_
        intro K hK
        go_simp
        refine (hadd.out E' M4 w7 hA7 _ hTM.out).mono ?_
        rintro e w8 ⟨rfl, ⟨M5, x', hx', hA8⟩, hb8⟩
        obtain ⟨hPS8, hc8⟩ := hfin.out w8 M5 x' (hx'.trans hgv.symm) hA8
        have hS8 : CbS cb (contArr d dA dn dk) w8 := (hA8.hp.base (k := .ext 0) hE0).2.2
        have hB8 := Lib.hid ((hBd.out.trans (hb7.mono (by have := hBd.out.size; omega))).trans hb8)
        replace hPS8 := Lib.hid hPS8
        replace hA8 := Lib.hid hA8
        replace hc8 := Lib.hid hc8
        refine can_same hS8 (hK _ _ _ ?_)
        clear hK K
        refine wpCan_nil ?_
        go_wp2_with fail
        go_roundw
        case rel => exact ⟨j + 1, by omega, hPS8, hB8⟩
        case measure => rw [hc8.out, hcr.out]; simp
    · cases row with
      | nil => rw [← hrow] at hplen; simp at hplen; omega
      | cons x t =>
        obtain ⟨g, cc, hrv, _⟩ := row_facts hA
        obtain ⟨hR1, hR2, hRf, c0, _⟩ := rd_facts hA
        have htl : t.length + 1 = L - j := by rw [← hrow] at hplen; simpa using hplen
        obtain ⟨n, hn⟩ : ∃ n, t.length = n := ⟨_, rfl⟩
        rw [hrv, hn] at c0
        rw [hn] at htl
        have hkn : ¬ (k : Int) < (n : Int) + 1 := by omega
        have hPf := Lib.hid (by rw [hje] at hP; exact hP : Hid (PS wr B E R { q with row := Pb.pops (L - k) q.row }))
        have hl1 : n + 1 ≤ L - j := by omega
        replace hA := Lib.hid hA
        replace hrow := Lib.hid hrow
        replace hP := Lib.hid hP
        clear htl hje hplen hrv hn
        go_wp2_with fail
        go_returns
        exact ⟨rfl, hPf.out.out, hb.out⟩
end Go.Proofs.YtmmgfoepfapnkaaGreatDoor

namespace Go.Proofs.YtmmgfoepfapnkaaGreatDoor
open Go.RowKit
attribute [local go_sem] canOp readsAs readUpon

theorem pempty_at (s : List UInt8) (E : Bool) (hE : Fn.emp s = E) (w : World) (hl : s.length ≤ 140737488355328) : Calls Tryz.prog 152 #[.string (bs s)] w fun e w' => e = .returned (.bool E) ∧ w = w' := by
  subst hE; exact empty_any s w hl
theorem pindent_at (s : List UInt8) (C : Nat) (hC : Fn.cl s = C) (w : World) (hl : s.length ≤ 140737488355328) : ∃ K : Nat, Calls Tryz.prog 193 #[.string (bs s)] w fun e w' => e = .returned (.tuple #[.int .i64 (C : Int), .int .i64 (K : Int)]) ∧ w = w' := by
  subst hC; exact ⟨_, indent_any s w hl⟩

set_option maxHeartbeats 1000000 in
set_option maxRecDepth 100000 in
theorem ptakeItem (d : Pb.Cn) (A : Option Addr) (n k : Nat) (s : List UInt8) (w : World) (hl : s.length + 100 ≤ 140737488355328) :
    Calls Tryz.prog 172 #[.agg (contArr d A n k), .string (bs s)] w fun e w' => e = .returned (quotev (if Fn.emp s = true then some s else if Fn.cl s < d.col then none else some (Cl.strip d.col s))) ∧ Below w.heap.size w w' := by
  obtain ⟨E, hE⟩ : ∃ E, Fn.emp s = E := ⟨_, rfl⟩
  obtain ⟨C, hC⟩ : ∃ C, Fn.cl s = C := ⟨_, rfl⟩
  have hem := fun w => pempty_at s E hE w (by omega)
  have hin := fun w => pindent_at s C hC w (by omega)
  have hst := fun w => strip_any s (d.col : Int) w (by omega)
  obtain ⟨T, hT⟩ : ∃ T, Cl.strip (d.col : Int) s = T := ⟨_, rfl⟩
  obtain ⟨Q, hQ⟩ : ∃ Q, quotev (if Fn.emp s = true then some s else if Fn.cl s < d.col then none else some (Cl.strip d.col s)) = Q := ⟨_, rfl⟩
  rw [hQ]
  rw [hE, hC, hT] at hQ
  rw [hT] at hst
  have hb := ext_alloc w (.cells (contArr d A n k) 167)
  have hn7 := cell_of (heap_alloc_new w (.cells (contArr d A n k) 167)) (j := 7) rfl
  obtain ⟨w1, hw1⟩ : ∃ w1, w.alloc (.cells (contArr d A n k) 167) = w1 := ⟨_, rfl⟩
  rw [hw1] at hb hn7
  replace hw1 := Lib.hid hw1
  cases E with
  | true =>
    rw [if_pos rfl] at hQ
    subst hQ
    clear hin hst
    go_enter Tryz.func172, Tryz.ntmps172
    go_wp2_with fail
    rw [hw1.out]
    refine (hem _).mono ?_
    rintro e w2 ⟨rfl, rfl⟩
    go_wp2_with fail
    go_ret2
    exact ⟨rfl, hb⟩
  | false =>
    rw [if_neg (by simp)] at hQ
    obtain ⟨K, hK⟩ := hin w1
    by_cases hlt : C < d.col
    · rw [if_pos hlt] at hQ
      subst hQ
      have hlt' : (C : Int) < (d.col : Int) := by omega
      clear hin hst
      go_enter Tryz.func172, Tryz.ntmps172
      go_wp2_with fail
      rw [hw1.out]
      refine (hem _).mono ?_
      rintro e w2 ⟨rfl, rfl⟩
      go_wp2_with fail
      refine hK.mono ?_
      rintro e w2 ⟨rfl, rfl⟩
      go_wp2_with fail
      go_ret2
      exact ⟨rfl, hb⟩
    · rw [if_neg hlt] at hQ
      subst hQ
      have hlt' : ¬ (C : Int) < (d.col : Int) := by omega
      clear hin
      go_enter Tryz.func172, Tryz.ntmps172
      go_wp2_with fail
      rw [hw1.out]
      refine (hem _).mono ?_
      rintro e w2 ⟨rfl, rfl⟩
      go_wp2_with fail
      refine hK.mono ?_
      rintro e w2 ⟨rfl, rfl⟩
      go_wp2_with fail
      refine (hst _).mono ?_
      rintro e w2 ⟨rfl, hb2⟩
      go_wp2_with fail
      go_ret2
      exact ⟨rfl, ext_trans hb hb2⟩

set_option maxHeartbeats 1000000 in
set_option maxRecDepth 100000 in
theorem ptake (d : Pb.Cn) (A : Option Addr) (n k : Nat) (s : List UInt8) (w : World) (hl : s.length + 100 ≤ 140737488355328) :
    Calls Tryz.prog 146 #[.agg (contArr d A n k), .string (bs s)] w fun e w' => e = .returned (quotev (d.take s)) ∧ Below w.heap.size w w' := by
  have hq := fun w => pquote_any s w hl
  have hit := fun w => ptakeItem d A n k s w hl
  have hb := ext_alloc w (.cells (contArr d A n k) 167)
  have hnew := heap_alloc_new w (.cells (contArr d A n k) 167)
  obtain ⟨w1, hw1⟩ : ∃ w1, w.alloc (.cells (contArr d A n k) 167) = w1 := ⟨_, rfl⟩
  rw [hw1] at hb hnew
  have z0 := cell_of hnew (j := 0) rfl
  have z1 := cell_of hnew (j := 1) rfl
  have z2 := cell_of hnew (j := 2) rfl
  have z3 := cell_of hnew (j := 3) rfl
  have z4 := cell_of hnew (j := 4) rfl
  have z5 := cell_of hnew (j := 5) rfl
  have z6 := cell_of hnew (j := 6) rfl
  have z7 := cell_of hnew (j := 7) rfl
  have z8 := cell_of hnew (j := 8) rfl
  replace hw1 := Lib.hid hw1
  replace hnew := Lib.hid hnew
  by_cases h1 : d.kind = 1
  · have t1 : ((d.kind : Int) == 1) = true := by rw [beq_iff_eq]; omega
    have e : d.take s = Lf.quote s := by unfold Pb.Cn.take; exact if_pos h1
    rw [e]
    obtain ⟨qt, qo, hqf⟩ := quotev_form (Lf.quote s)
    rw [hqf] at hq ⊢
    clear hit
    go_enter Tryz.func146, Tryz.ntmps146
    go_wp2_with fail
    rw [hw1.out]
    refine (hq _).mono ?_
    rintro e w2 ⟨rfl, hb2⟩
    go_wp2_with fail
    go_ret2
    exact ⟨rfl, ext_trans hb hb2⟩
  · have t1 : ((d.kind : Int) == 1) = false := by rw [beq_eq_false_iff_ne]; omega
    by_cases h3 : d.kind = 3
    · have t3 : ((d.kind : Int) == 3) = true := by rw [beq_iff_eq]; omega
      have e : d.take s = if Fn.emp s = true then some s else if Fn.cl s < d.col then none else some (Cl.strip d.col s) := by unfold Pb.Cn.take; rw [if_neg h1]; exact if_pos h3
      rw [e]
      obtain ⟨qt, qo, hqf⟩ := quotev_form (if Fn.emp s = true then some s else if Fn.cl s < d.col then none else some (Cl.strip d.col s))
      rw [hqf] at hit ⊢
      have hk3 : (d.kind : Int) = 3 := by omega
      simp only [contArr] at hit
      rw [hk3] at hit
      replace hit := Lib.hid hit
      clear hq hk3
      go_enter Tryz.func146, Tryz.ntmps146
      go_wp2_with fail
      rw [hw1.out]
      refine (hit.out _).mono ?_
      rintro e w2 ⟨rfl, hb2⟩
      go_wp2_with fail
      go_ret2
      exact ⟨rfl, ext_trans hb hb2⟩
    · have t3 : ((d.kind : Int) == 3) = false := by rw [beq_eq_false_iff_ne]; omega
      have e : d.take s = some s := by unfold Pb.Cn.take; rw [if_neg h1]; exact if_neg h3
      rw [e]
      clear hq hit
      go_enter Tryz.func146, Tryz.ntmps146
      go_wp2_with fail
      go_ret2
      exact ⟨rfl, hw1.out ▸ hb⟩

/-- an opened container's nine cells -/
def openv (ln : Nat) : Option (Option (UInt8 × Nat) × List UInt8) → Value
  | none => .tuple #[.agg (contArr ⟨0, 0, [], 0, 0, none⟩ none 0 0), .string ⟨#[]⟩, .bool false]
  | some (o, q) => .tuple #[.agg (contArr (Pb.fresh ln o) none 0 0), .string (bs q), .bool true]

/-- nine cells are written -/
def nine (w : World) (g : Nat) (a0 a1 a2 a3 a4 a5 a6 a7 a8 : Value) : World := (((((((((w.setCell ⟨g, 0, none⟩ a0).setCell ⟨g, 1, none⟩ a1).setCell ⟨g, 2, none⟩ a2).setCell ⟨g, 3, none⟩ a3).setCell ⟨g, 4, none⟩ a4).setCell ⟨g, 5, none⟩ a5).setCell ⟨g, 6, none⟩ a6).setCell ⟨g, 7, none⟩ a7).setCell ⟨g, 8, none⟩ a8)
theorem nine_at {w : World} {g : Nat} {z0 z1 z2 z3 z4 z5 z6 z7 z8 : Value} {t : TypeId} (h : w.heap[g]? = some (.cells #[z0, z1, z2, z3, z4, z5, z6, z7, z8] t (0, 0))) (a0 a1 a2 a3 a4 a5 a6 a7 a8 : Value) : (nine w g a0 a1 a2 a3 a4 a5 a6 a7 a8).heap[g]? = some (.cells #[a0, a1, a2, a3, a4, a5, a6, a7, a8] t (0, 0)) := by
  unfold nine
  have h1 : (w.setCell ⟨g, 0, none⟩ a0).heap[g]? = some (.cells #[a0, z1, z2, z3, z4, z5, z6, z7, z8] t (0, 0)) := heap_setCell_same w g 0 _ t a0 h
  generalize hw1 : (w.setCell ⟨g, 0, none⟩ a0) = w1 at h1 ⊢
  have h2 : (w1.setCell ⟨g, 1, none⟩ a1).heap[g]? = some (.cells #[a0, a1, z2, z3, z4, z5, z6, z7, z8] t (0, 0)) := heap_setCell_same w1 g 1 _ t a1 h1
  generalize hw2 : (w1.setCell ⟨g, 1, none⟩ a1) = w2 at h2 ⊢
  have h3 : (w2.setCell ⟨g, 2, none⟩ a2).heap[g]? = some (.cells #[a0, a1, a2, z3, z4, z5, z6, z7, z8] t (0, 0)) := heap_setCell_same w2 g 2 _ t a2 h2
  generalize hw3 : (w2.setCell ⟨g, 2, none⟩ a2) = w3 at h3 ⊢
  have h4 : (w3.setCell ⟨g, 3, none⟩ a3).heap[g]? = some (.cells #[a0, a1, a2, a3, z4, z5, z6, z7, z8] t (0, 0)) := heap_setCell_same w3 g 3 _ t a3 h3
  generalize hw4 : (w3.setCell ⟨g, 3, none⟩ a3) = w4 at h4 ⊢
  have h5 : (w4.setCell ⟨g, 4, none⟩ a4).heap[g]? = some (.cells #[a0, a1, a2, a3, a4, z5, z6, z7, z8] t (0, 0)) := heap_setCell_same w4 g 4 _ t a4 h4
  generalize hw5 : (w4.setCell ⟨g, 4, none⟩ a4) = w5 at h5 ⊢
  have h6 : (w5.setCell ⟨g, 5, none⟩ a5).heap[g]? = some (.cells #[a0, a1, a2, a3, a4, a5, z6, z7, z8] t (0, 0)) := heap_setCell_same w5 g 5 _ t a5 h5
  generalize hw6 : (w5.setCell ⟨g, 5, none⟩ a5) = w6 at h6 ⊢
  have h7 : (w6.setCell ⟨g, 6, none⟩ a6).heap[g]? = some (.cells #[a0, a1, a2, a3, a4, a5, a6, z7, z8] t (0, 0)) := heap_setCell_same w6 g 6 _ t a6 h6
  generalize hw7 : (w6.setCell ⟨g, 6, none⟩ a6) = w7 at h7 ⊢
  have h8 : (w7.setCell ⟨g, 7, none⟩ a7).heap[g]? = some (.cells #[a0, a1, a2, a3, a4, a5, a6, a7, z8] t (0, 0)) := heap_setCell_same w7 g 7 _ t a7 h7
  generalize hw8 : (w7.setCell ⟨g, 7, none⟩ a7) = w8 at h8 ⊢
  have h9 : (w8.setCell ⟨g, 8, none⟩ a8).heap[g]? = some (.cells #[a0, a1, a2, a3, a4, a5, a6, a7, a8] t (0, 0)) := heap_setCell_same w8 g 8 _ t a8 h8
  exact h9
theorem nine_below {B : Nat} {w0 w : World} (hb : Below B w0 w) {g : Nat} (hg : B ≤ g) (a0 a1 a2 a3 a4 a5 a6 a7 a8 : Value) : Below B w0 (nine w g a0 a1 a2 a3 a4 a5 a6 a7 a8) := by
  unfold nine
  exact (((((((((hb.setCell (p := ⟨g, 0, none⟩) hg a0).setCell (p := ⟨g, 1, none⟩) hg a1).setCell (p := ⟨g, 2, none⟩) hg a2).setCell (p := ⟨g, 3, none⟩) hg a3).setCell (p := ⟨g, 4, none⟩) hg a4).setCell (p := ⟨g, 5, none⟩) hg a5).setCell (p := ⟨g, 6, none⟩) hg a6).setCell (p := ⟨g, 7, none⟩) hg a7).setCell (p := ⟨g, 8, none⟩) hg a8)

set_option maxHeartbeats 1000000 in
set_option maxRecDepth 100000 in
theorem pbegins (ln : Nat) (s : List UInt8) (w : World) (hl : s.length + 100 ≤ 140737488355328) :
    Calls Tryz.prog 149 #[.int .i64 (ln : Int), .string (bs s)] w fun e w' => e = .returned (openv ln (Bk.opener s)) ∧ Below w.heap.size w w' := by
  have hq := fun w => pquote_any s w hl
  have hit := fun w => pitem_any s w hl
  have hb0 := ext_alloc w (.cells #[.int .i64 0, .int .i64 0, .string ⟨#[]⟩, .string ⟨#[]⟩, .int .i64 0, .slice none 0 0, .int .u8 0, .int .i64 0, .int .u8 0] 167)
  have hn0 := heap_alloc_new w (.cells #[.int .i64 0, .int .i64 0, .string ⟨#[]⟩, .string ⟨#[]⟩, .int .i64 0, .slice none 0 0, .int .u8 0, .int .i64 0, .int .u8 0] 167)
  have hz0 : (w.alloc (.cells #[.int .i64 0, .int .i64 0, .string ⟨#[]⟩, .string ⟨#[]⟩, .int .i64 0, .slice none 0 0, .int .u8 0, .int .i64 0, .int .u8 0] 167)).heap.size = w.heap.size + 1 := by simp
  obtain ⟨w1, hw1⟩ : ∃ w1, w.alloc (.cells #[.int .i64 0, .int .i64 0, .string ⟨#[]⟩, .string ⟨#[]⟩, .int .i64 0, .slice none 0 0, .int .u8 0, .int .i64 0, .int .u8 0] 167) = w1 := ⟨_, rfl⟩
  rw [hw1] at hb0 hn0 hz0
  replace hw1 := Lib.hid hw1
  cases hqq : Lf.quote s with
  | some q =>
    have e : Bk.opener s = some (none, q) := by unfold Bk.opener; rw [hqq]
    rw [e]
    rw [hqq] at hq
    simp only [quotev] at hq
    clear hit e hqq
    go_enter Tryz.func149, Tryz.ntmps149
    go_wp2_with fail
    rw [hw1.out]
    refine (hq _).mono ?_
    rintro e w2 ⟨rfl, hb2⟩
    have hn2 := (hb2.block w.heap.size (by omega)).trans hn0
    have z0 := cell_of hn2 (j := 0) rfl
    have z1 := cell_of hn2 (j := 1) rfl
    have z2 := cell_of hn2 (j := 2) rfl
    have z3 := cell_of hn2 (j := 3) rfl
    have z4 := cell_of hn2 (j := 4) rfl
    have z5 := cell_of hn2 (j := 5) rfl
    have z6 := cell_of hn2 (j := 6) rfl
    have z7 := cell_of hn2 (j := 7) rfl
    have z8 := cell_of hn2 (j := 8) rfl
    have zf := blk_free hn2
    have hb3 := hb0.trans (hb2.mono (by omega))
    replace hn2 := Lib.hid hn2
    replace hn0 := Lib.hid hn0
    go_wp2_with fail
    have hW := nine_at hn2.out (.int .i64 1) (.int .i64 0) (.string ⟨#[]⟩) (.string ⟨#[]⟩) (.int .i64 (ln : Int)) (.slice none 0 0) (.int .u8 0) (.int .i64 0) (.int .u8 0)
    have hBW := nine_below hb3 (Nat.le_refl _) (.int .i64 1) (.int .i64 0) (.string ⟨#[]⟩) (.string ⟨#[]⟩) (.int .i64 (ln : Int)) (.slice none 0 0) (.int .u8 0) (.int .i64 0) (.int .u8 0)
    change bodyPost _ _ _ _ _ (nine w2 w.heap.size (.int .i64 1) (.int .i64 0) (.string ⟨#[]⟩) (.string ⟨#[]⟩) (.int .i64 (ln : Int)) (.slice none 0 0) (.int .u8 0) (.int .i64 0) (.int .u8 0))
    generalize (nine w2 w.heap.size (.int .i64 1) (.int .i64 0) (.string ⟨#[]⟩) (.string ⟨#[]⟩) (.int .i64 (ln : Int)) (.slice none 0 0) (.int .u8 0) (.int .i64 0) (.int .u8 0)) = wz at hW hBW ⊢
    have y0 := cell_of hW (j := 0) rfl
    have y1 := cell_of hW (j := 1) rfl
    have y2 := cell_of hW (j := 2) rfl
    have y3 := cell_of hW (j := 3) rfl
    have y4 := cell_of hW (j := 4) rfl
    have y5 := cell_of hW (j := 5) rfl
    have y6 := cell_of hW (j := 6) rfl
    have y7 := cell_of hW (j := 7) rfl
    have y8 := cell_of hW (j := 8) rfl
    clear z0 z1 z2 z3 z4 z5 z6 z7 z8 zf
    exact bodyPost_ret (v := .tuple #[.agg #[.int .i64 1, .int .i64 0, .string ⟨#[]⟩, .string ⟨#[]⟩, .int .i64 (ln : Int), .slice none 0 0, .int .u8 0, .int .i64 0, .int .u8 0], .string (bs q), .bool true]) (by rw [results_cell_tmp2 rfl]; go_simp) rfl ⟨rfl, hBW⟩
  | none =>
    rw [hqq] at hq
    simp only [quotev] at hq
    cases hii : Lf.item s with
    | none =>
      have e : Bk.opener s = none := by unfold Bk.opener; rw [hqq, hii]
      rw [e]
      rw [hii] at hit
      simp only [itemv] at hit
      clear e hqq hii
      go_enter Tryz.func149, Tryz.ntmps149
      go_wp2_with fail
      rw [hw1.out]
      refine (hq _).mono ?_
      rintro e w2 ⟨rfl, hb2⟩
      go_wp2_with fail
      refine (hit _).mono ?_
      rintro e w3 ⟨rfl, hb2b⟩
      replace hb2 := ext_trans hb2 hb2b
      have hn2 := (hb2.block w.heap.size (by omega)).trans hn0
      have z0 := cell_of hn2 (j := 0) rfl
      have z1 := cell_of hn2 (j := 1) rfl
      have z2 := cell_of hn2 (j := 2) rfl
      have z3 := cell_of hn2 (j := 3) rfl
      have z4 := cell_of hn2 (j := 4) rfl
      have z5 := cell_of hn2 (j := 5) rfl
      have z6 := cell_of hn2 (j := 6) rfl
      have z7 := cell_of hn2 (j := 7) rfl
      have z8 := cell_of hn2 (j := 8) rfl
      have zf := blk_free hn2
      have hb3 := hb0.trans (hb2.mono (by omega))
      replace hn2 := Lib.hid hn2
      replace hn0 := Lib.hid hn0
      clear hb2b
      go_wp2_with fail
      have hW := nine_at hn2.out (.int .i64 0) (.int .i64 0) (.string ⟨#[]⟩) (.string ⟨#[]⟩) (.int .i64 0) (.slice none 0 0) (.int .u8 0) (.int .i64 0) (.int .u8 0)
      have hBW := nine_below hb3 (Nat.le_refl _) (.int .i64 0) (.int .i64 0) (.string ⟨#[]⟩) (.string ⟨#[]⟩) (.int .i64 0) (.slice none 0 0) (.int .u8 0) (.int .i64 0) (.int .u8 0)
      change bodyPost _ _ _ _ _ (nine w3 w.heap.size (.int .i64 0) (.int .i64 0) (.string ⟨#[]⟩) (.string ⟨#[]⟩) (.int .i64 0) (.slice none 0 0) (.int .u8 0) (.int .i64 0) (.int .u8 0))
      generalize (nine w3 w.heap.size (.int .i64 0) (.int .i64 0) (.string ⟨#[]⟩) (.string ⟨#[]⟩) (.int .i64 0) (.slice none 0 0) (.int .u8 0) (.int .i64 0) (.int .u8 0)) = wz at hW hBW ⊢
      have y0 := cell_of hW (j := 0) rfl
      have y1 := cell_of hW (j := 1) rfl
      have y2 := cell_of hW (j := 2) rfl
      have y3 := cell_of hW (j := 3) rfl
      have y4 := cell_of hW (j := 4) rfl
      have y5 := cell_of hW (j := 5) rfl
      have y6 := cell_of hW (j := 6) rfl
      have y7 := cell_of hW (j := 7) rfl
      have y8 := cell_of hW (j := 8) rfl
      clear z0 z1 z2 z3 z4 z5 z6 z7 z8 zf
      exact bodyPost_ret (v := .tuple #[.agg #[.int .i64 0, .int .i64 0, .string ⟨#[]⟩, .string ⟨#[]⟩, .int .i64 0, .slice none 0 0, .int .u8 0, .int .i64 0, .int .u8 0], .string ⟨#[]⟩, .bool false]) (by rw [results_cell_tmp2 rfl]; go_simp) rfl ⟨rfl, hBW⟩
    | some it =>
      obtain ⟨sg, cn, q⟩ := it
      have e : Bk.opener s = some (some (sg, cn), q) := by unfold Bk.opener; rw [hqq, hii]
      rw [e]
      rw [hii] at hit
      simp only [itemv] at hit
      clear e hqq hii
      go_enter Tryz.func149, Tryz.ntmps149
      go_wp2_with fail
      rw [hw1.out]
      refine (hq _).mono ?_
      rintro e w2 ⟨rfl, hb2⟩
      go_wp2_with fail
      refine (hit _).mono ?_
      rintro e w3 ⟨rfl, hb2b⟩
      replace hb2 := ext_trans hb2 hb2b
      have hn2 := (hb2.block w.heap.size (by omega)).trans hn0
      have z0 := cell_of hn2 (j := 0) rfl
      have z1 := cell_of hn2 (j := 1) rfl
      have z2 := cell_of hn2 (j := 2) rfl
      have z3 := cell_of hn2 (j := 3) rfl
      have z4 := cell_of hn2 (j := 4) rfl
      have z5 := cell_of hn2 (j := 5) rfl
      have z6 := cell_of hn2 (j := 6) rfl
      have z7 := cell_of hn2 (j := 7) rfl
      have z8 := cell_of hn2 (j := 8) rfl
      have zf := blk_free hn2
      have hb3 := hb0.trans (hb2.mono (by omega))
      replace hn2 := Lib.hid hn2
      replace hn0 := Lib.hid hn0
      clear hb2b
      go_wp2_with fail
      have hW := nine_at hn2.out (.int .i64 3) (.int .i64 0) (.string ⟨#[]⟩) (.string ⟨#[]⟩) (.int .i64 (ln : Int)) (.slice none 0 0) (.int .u8 (sg.toNat : Int)) (.int .i64 (cn : Int)) (.int .u8 0)
      have hBW := nine_below hb3 (Nat.le_refl _) (.int .i64 3) (.int .i64 0) (.string ⟨#[]⟩) (.string ⟨#[]⟩) (.int .i64 (ln : Int)) (.slice none 0 0) (.int .u8 (sg.toNat : Int)) (.int .i64 (cn : Int)) (.int .u8 0)
      change bodyPost _ _ _ _ _ (nine w3 w.heap.size (.int .i64 3) (.int .i64 0) (.string ⟨#[]⟩) (.string ⟨#[]⟩) (.int .i64 (ln : Int)) (.slice none 0 0) (.int .u8 (sg.toNat : Int)) (.int .i64 (cn : Int)) (.int .u8 0))
      generalize (nine w3 w.heap.size (.int .i64 3) (.int .i64 0) (.string ⟨#[]⟩) (.string ⟨#[]⟩) (.int .i64 (ln : Int)) (.slice none 0 0) (.int .u8 (sg.toNat : Int)) (.int .i64 (cn : Int)) (.int .u8 0)) = wz at hW hBW ⊢
      have y0 := cell_of hW (j := 0) rfl
      have y1 := cell_of hW (j := 1) rfl
      have y2 := cell_of hW (j := 2) rfl
      have y3 := cell_of hW (j := 3) rfl
      have y4 := cell_of hW (j := 4) rfl
      have y5 := cell_of hW (j := 5) rfl
      have y6 := cell_of hW (j := 6) rfl
      have y7 := cell_of hW (j := 7) rfl
      have y8 := cell_of hW (j := 8) rfl
      clear z0 z1 z2 z3 z4 z5 z6 z7 z8 zf
      exact bodyPost_ret (v := .tuple #[.agg #[.int .i64 3, .int .i64 0, .string ⟨#[]⟩, .string ⟨#[]⟩, .int .i64 (ln : Int), .slice none 0 0, .int .u8 (sg.toNat : Int), .int .i64 (cn : Int), .int .u8 0], .string (bs q), .bool true]) (by rw [results_cell_tmp2 rfl]; go_simp) rfl ⟨rfl, hBW⟩
end Go.Proofs.YtmmgfoepfapnkaaGreatDoor

namespace Go.Proofs.YtmmgfoepfapnkaaGreatDoor
open Go.RowKit
attribute [local go_sem] canOp readsAs readUpon

theorem pquote_len {l q : List UInt8} (h : Lf.quote l = some q) : q.length ≤ l.length + 3 := by
  unfold Lf.quote at h
  have hr : (Fn.rs l).length ≤ l.length := by unfold Fn.rs; rw [List.length_drop]; omega
  split at h
  · cases h
  · rename_i c r hrs
    rw [hrs, List.length_cons] at hr
    split at h
    · cases h
      have := Cl.strip_len 1 r
      omega
    · cases h
theorem cn_take_len {d : Pb.Cn} {s q : List UInt8} (h : d.take s = some q) : q.length ≤ s.length + 3 := by
  unfold Pb.Cn.take at h
  split at h
  · exact pquote_len h
  · split at h
    · split at h
      · cases h; omega
      · split at h
        · cases h
        · cases h; have := Cl.strip_len (d.col : Int) s; omega
    · cases h; omega
theorem lev_at {row : List MC} {i : Nat} (h : i < row.length) : ∃ x, lev row i = some x ∧ (row.map (·.c)).reverse[i]? = some x.c ∧ ∀ j, j < 9 → (rowCells row)[i * 9 + j]? = (contCells x)[j]? := by
  induction row with
  | nil => simp at h
  | cons y o ih =>
    by_cases hi : i = o.length
    · subst hi
      refine ⟨y, lev_top y o, ?_, fun j hj => ?_⟩
      · rw [List.map_cons, List.reverse_cons, List.getElem?_append_right (by simp)]; simp
      · rw [rowCells, List.getElem?_append_right (by rw [rowCells_len]; omega), rowCells_len, Nat.add_sub_cancel_left]
    · obtain ⟨x, h1, h2, h3⟩ := ih (by simp only [List.length_cons] at h; omega)
      simp only [List.length_cons] at h
      refine ⟨x, by rw [lev_one y o hi]; exact h1, ?_, fun j hj => ?_⟩
      · rw [List.map_cons, List.reverse_cons, List.getElem?_append_left (by simp; omega)]; exact h2
      · rw [rowCells, List.getElem?_append_left (by rw [rowCells_len]; omega)]; exact h3 j hj
/-- the rest of a line's way -/
def Pb.takeF (L : List Pb.Cn) (i : Nat) (s : List UInt8) : Nat × List UInt8 := ((Pb.take (L.drop i) s).1 + i, (Pb.take (L.drop i) s).2)
theorem takeF_end {L : List Pb.Cn} {i : Nat} (h : ¬ i < L.length) (s : List UInt8) : Pb.takeF L i s = (i, s) := by
  unfold Pb.takeF; rw [List.drop_eq_nil_of_le (by omega)]; simp [Pb.take]
theorem takeF_at {L : List Pb.Cn} {i : Nat} {d : Pb.Cn} (h : L[i]? = some d) (s : List UInt8) : Pb.takeF L i s = match d.take s with
    | none => (i, s)
    | some q => Pb.takeF L (i + 1) q := by
  obtain ⟨hi, e⟩ := List.getElem?_eq_some_iff.1 h
  unfold Pb.takeF
  rw [List.drop_eq_getElem_cons hi, e, Pb.take]
  cases d.take s with
  | none => simp
  | some q => simp only; rw [Nat.add_assoc, Nat.add_comm 1 i]

set_option maxHeartbeats 2000000 in
set_option maxRecDepth 100000 in
theorem pthrough (w : World) (B : Nat) (E : Nat → Option Part) (R : Nat) (rv lv pv : Value) (M : Mm) (row : List MC) (l : Pb.Of) (ps : List Bk.Pl) (h : PAt w B E R rv lv pv M row l ps) (hrl : row.length ≤ 41) (s : List UInt8) (hs : s.length + 1000 ≤ 140737488355328) :
    Calls Tryz.prog 117 #[adr R, .string (bs s)] w fun e w' => e = .returned (.tuple #[.int .i64 ((Pb.take (row.map (·.c)).reverse s).1 : Int), .string (bs (Pb.take (row.map (·.c)).reverse s).2)]) ∧ Below w.heap.size w w' := by
  obtain ⟨hR1, hR2, hRf, c0, _⟩ := rd_facts h
  have ho := h.hp.own (k := .row) rfl
  obtain ⟨rA, rc, hrv, hrc⟩ := own_shape ho
  rw [hrv] at c0 ho
  have hat := fun i (hi : i < row.length) => lev_at hi
  have hkv := fun i x (hx : lev row i = some x) => own_shape (h.hp.own (k := .kid i) (by show (lev row i).map kidRow = some (kidRow x); rw [hx]; rfl))
  obtain ⟨L, hL⟩ : ∃ L, (row.map (·.c)).reverse = L := ⟨_, rfl⟩
  have hLl : L.length = row.length := by rw [← hL]; simp
  rw [hL] at hat ⊢
  obtain ⟨T, hT⟩ : ∃ T, Pb.take L s = T := ⟨_, rfl⟩
  rw [hT]
  have hT0 : Pb.takeF L 0 s = T := by rw [← hT]; simp [Pb.takeF]
  obtain ⟨n, hn⟩ : ∃ n, row.length = n := ⟨_, rfl⟩
  rw [hn] at c0 ho hrl hrc hat hLl
  have hr := Row.own ho
  have hrow : 0 < n → ∃ b, rA = some ⟨b, 0, none⟩ ∧ b < w.heap.size ∧ ∀ j u, (rowCells row)[j]? = some u → w.cell? ⟨b, j, none⟩ = some u := fun h0 => by
    obtain ⟨g, c, cur, hv, _, _, hw, _⟩ := own_block ho h0
    cases hv
    exact ⟨g, rfl, (Array.getElem?_eq_some_iff.1 hw).1, fun j u hj => own_cell ho hj⟩
  replace h := Lib.hid h
  replace hT0 := Lib.hid hT0
  clear hT hr ho hn hRf
  go_enter Tryz.func117, Tryz.ntmps117
  go_wp2_with fail
  go_loopw [1, 15] (fun t u wr => ∃ (i : Nat) (q : List UInt8), i ≤ n ∧ t = .string (bs q) ∧ u = .int .i64 (i : Int) ∧ q.length ≤ s.length + 3 * i ∧ Hid (Pb.takeF L i q = T) ∧ Hid (Below w.heap.size w wr)) (fun _ u _ => n - (intOf u).toNat)
  case atStart => exact ⟨0, s, Nat.zero_le _, rfl, rfl, by omega, hT0, Lib.hid (Below.refl _ _)⟩
  case round =>
    obtain ⟨i, q, hi, rfl, rfl, hq, hTi, hb⟩ := hrel
    rcases Nat.lt_or_eq_of_le hi with hlt | hie
    · obtain ⟨x, hx1, hx2, hx3⟩ := hat i hlt
      obtain ⟨b, rfl, hbw, hbc⟩ := hrow (by omega)
      obtain ⟨kA, kc, hkv', _⟩ := hkv i x hx1
      have hc9 := fun (j : Nat) (u : Value) (hj : (contArr x.c kA x.c.all.length kc)[j]? = some u) => (hb.out.cell (p := ⟨b, i * 9 + j, none⟩) hbw).trans (hbc (i * 9 + j) u (by
        have e : contCells x = (contArr x.c kA x.c.all.length kc).toList := by unfold contCells; rw [hkv']
        have hj9 : j < 9 := (Array.getElem?_eq_some_iff.1 hj).1
        rw [hx3 j hj9, e]; simpa using hj))
      have k0 := hc9 0 _ rfl
      have k1 := hc9 1 _ rfl
      have k2 := hc9 2 _ rfl
      have k3 := hc9 3 _ rfl
      have k4 := hc9 4 _ rfl
      have k5 := hc9 5 _ rfl
      have k6 := hc9 6 _ rfl
      have k7 := hc9 7 _ rfl
      have k8 := hc9 8 _ rfl
      rw [Nat.add_zero] at k0
      have hF := takeF_at hx2 q
      rw [hTi.out] at hF
      have htl := fun q' (e : x.c.take q = some q') => cn_take_len e
      have hnl : n ≤ rc := hrc
      have hpt := fun w => ptake x.c kA x.c.all.length kc q w (by omega)
      obtain ⟨d, hd⟩ : ∃ d, x.c = d := ⟨_, rfl⟩
      obtain ⟨kn, hkn⟩ : ∃ kn, d.all.length = kn := ⟨_, rfl⟩
      rw [hd] at k0 k4 k5 k6 k7 k8 hpt hF htl
      rw [hkn] at k5 hpt
      replace hpt := Lib.hid hpt
      replace hF := Lib.hid hF
      have hbz := hb.out.size
      have hi0 : (0 : Int) ≤ (i : Int) := by omega
      have hi1 : (i : Int) < (n : Int) := by omega
      clear hc9 hx1 hx2 hx3 hkv' hd hkn hbc hat hkv hrow
      have hba := ext_alloc wr (.cells (contArr d kA kn kc) 167)
      have hna := heap_alloc_new wr (.cells (contArr d kA kn kc) 167)
      cases htk : d.take q with
      | none =>
        have hF' := hF.out
        rw [htk] at hpt hF'
        simp only [quotev] at hpt hF'
        replace hF' := Lib.hid hF'
        go_wp2_with fail
        refine (hpt.out _).mono ?_
        rintro e w2 ⟨rfl, hb2⟩
        have hbf := Lib.hid (hb.out.trans ((ext_trans hba hb2).mono hbz))
        go_wp2_with fail
        go_ret2
        exact ⟨by rw [hF'.out]; rfl, hbf.out⟩
      | some q' =>
        have hF' := hF.out
        have htl' := htl q' htk
        rw [htk] at hpt hF'
        simp only [quotev] at hpt hF'
        replace hF' := Lib.hid hF'.symm
        go_wp2_with fail
        refine (hpt.out _).mono ?_
        rintro e w2 ⟨rfl, hb2⟩
        have hbf := Lib.hid (hb.out.trans ((ext_trans hba hb2).mono hbz))
        clear htl
        go_wp2_with fail
        go_roundw
        case rel => exact ⟨i + 1, q', by omega, rfl, by go_num, by omega, hF', hbf⟩
        case measure => simp [intOf]; omega
    · have hF' := hTi.out
      rw [takeF_end (by omega)] at hF'
      have hcR : wr.cell? ⟨R, 0, none⟩ = some (.slice rA n rc) := (hb.out.cell (p := ⟨R, 0, none⟩) hR2).trans c0
      subst hie
      replace hF' := Lib.hid hF'
      clear hat hkv hrow c0
      go_wp2_with fail
      go_ret2
      exact ⟨by rw [← hF'.out]; rfl, hb.out⟩
end Go.Proofs.YtmmgfoepfapnkaaGreatDoor

namespace Go.Proofs.YtmmgfoepfapnkaaGreatDoor
open Go.RowKit
attribute [local go_sem] canOp readsAs readUpon

/-- append of a row of great elements -/
theorem run_app_row_big {P : Program} {w : World} {T ty : TypeId} {E : TypeId} {size bytes : Nat} (hE : EI P T E size bytes) {base n : Nat} {v : Value} {xs : List Value} (hown : w.ownsRow base E size v n xs)
    {B m c : Nat} {A : Option Addr} {news : List Value} (hr : Row w B size A m news) (h1 : ∀ u ∈ news, u.oneCell' = true) (h63 : n + m ≤ 1000000000) (hbytes : bytes ≤ 100000) (hbase : base ≤ w.heap.size) :
    ∃ v' w', (Builtin.append_ #[T, T] ty #[v, .slice A m c]).run P w = .ok v' w' ∧ w'.ownsRow base E size v' (n + m) (xs ++ news) ∧ w.grownBy w' v.ownBlock ∧ At w.heap.size v v' := by
  obtain ⟨i, z, hi, hz, hs1, hs2, hs3⟩ := hE.info
  rcases Nat.eq_zero_or_pos m with h0 | h0
  · subst h0
    have hn : news = [] := List.eq_nil_of_length_eq_zero (by simpa using hr.1)
    subst hn
    refine ⟨v, w, ?_, by simpa using hown, World.grownBy.refl w _, fun _ h => .inl h⟩
    rcases A with _ | ad
    · rcases hown.2 with ⟨rfl, rfl⟩ | ⟨g, cap, cur, rfl, _, _, hnc, _⟩
      · simp [Builtin.append_, run_underlying hE.ht, sizeOf, typeInfo, hi, Builtin.lenOf, Builtin.firstCells]
      · simp [Builtin.append_, run_underlying hE.ht, sizeOf, typeInfo, hi, Builtin.lenOf, Builtin.firstCells, hnc, storeCells]
    · rcases hown.2 with ⟨rfl, rfl⟩ | ⟨g, cap, cur, rfl, _, _, hnc, _⟩
      · simp [Builtin.append_, run_underlying hE.ht, sizeOf, typeInfo, hi, Builtin.lenOf, Builtin.firstCells, loadCells, loadCellsFrom]
      · simp [Builtin.append_, run_underlying hE.ht, sizeOf, typeInfo, hi, Builtin.lenOf, Builtin.firstCells, loadCells, loadCellsFrom, hnc, storeCells]
  · obtain ⟨b, o, rfl, _, hc⟩ := hr.2 h0
    have hcell : ∀ j u, news[j]? = some u → w.cell? ((⟨b, o, none⟩ : Addr).add j) = some u := by
      intro j u hu
      have : (⟨b, o, none⟩ : Addr).add j = ⟨b, o + j, none⟩ := by unfold Addr.add; split <;> simp_all
      rw [this]; exact hc j u hu
    obtain ⟨v', w', h2, h3, h4, _, h5⟩ := run_append_own_at (P := P) w base T ty E i z size bytes hE.ht hi hz hs1 hs2 hs3 hE.pos v n xs hown ⟨b, o, none⟩ m c news hr.1 hcell h1
      (by unfold maxLen; omega) (by have := Nat.mul_le_mul h63 hbytes; omega) hbase
    refine ⟨v', w', h2, h3, h4, fun q hq => ?_⟩
    rcases h5 with e | e
    · rw [e] at hq; exact .inl hq
    · rw [e] at hq; simp at hq; exact .inr (by omega)

theorem wp_app_row_big {P : Program} {w : World} {o : Oper} {a : Act} {K : Act → World → Prop} {Q : Exit → Act → World → Prop} (s x : Operand) {T : TypeId}
    (ho : o.op = .call { callee := .builtin .append, args := #[s, x], argTypes := #[T, T] })
    {E : TypeId} {size bytes : Nat} (hE : EI P T E size bytes) {base n : Nat} {v : Value} {xs : List Value} (hs : a.eval s = v) (hown : w.ownsRow base E size v n xs)
    {B m c : Nat} {A : Option Addr} {news : List Value} (hx : a.eval x = .slice A m c) (hr : Row w B size A m news) (h1 : ∀ u ∈ news, u.oneCell' = true) (h63 : n + m ≤ 1000000000) (hbytes : bytes ≤ 100000) (hbase : base ≤ w.heap.size)
    (h : ∀ v' w', w'.ownsRow base E size v' (n + m) (xs ++ news) → Hid (w.grownBy w' v.ownBlock) → Below base w w' → Hid (At w.heap.size v v') → K (a.put o.dst v') w') : o.wp P a w K Q := by
  obtain ⟨v', w', hrun, h2, h3, h4⟩ := run_app_row_big (ty := o.type) (c := c) hE hown hr h1 h63 hbytes hbase
  unfold Oper.wp execOp
  simp only [ho, resolve, invoke, builtin, Sem.run_bind, Sem.run_pure, Result.andThen_ok, List.map_toArray, List.map_cons, List.map_nil, hs, hx, hrun]
  exact h v' w' h2 h3 (below_grown (Below.refl _ _) hown (Below.refl _ _) h3 hbase) h4
theorem contEI : EI Tryz.prog 134 167 9 104 := EI.mk' (z := .agg #[.int .i64 0, .int .i64 0, .string ⟨#[]⟩, .string ⟨#[]⟩, .int .i64 0, .slice none 0 0, .int .u8 0, .int .i64 0, .int .u8 0]) Tryz.underlying134 (by kernel_rfl) rfl (by omega)
theorem closeTo_len {r : Pb.Rd} {k : Nat} (h1 : 1 ≤ k) (h2 : k ≤ r.row.length) : (Pb.closeTo k r).row.length = k := by
  have hl : (Pb.closeLeaf r).row.length = r.row.length := by
    have ha : ∀ t, (Pb.addTip t r).row.length = r.row.length := fun t => by
      unfold Pb.addTip
      cases hr : r.row with
      | nil => simp [hr]
      | cons c o => simp
    unfold Pb.closeLeaf
    split
    · exact ha _
    · split
      · exact ha _
      · rfl
  show (Pb.pops ((Pb.closeLeaf r).row.length - k) (Pb.closeLeaf r).row).length = k
  rw [pops_len _ _ (by omega)]; omega
theorem opener_len {s q : List UInt8} {o : Option (UInt8 × Nat)} (h : Bk.opener s = some (o, q)) : q.length ≤ s.length + 3 ∧ ∀ c n, o = some (c, n) → c ≠ 0 := by
  unfold Bk.opener at h
  cases hq : Lf.quote s with
  | some q' =>
    rw [hq] at h
    cases h
    exact ⟨pquote_len hq, fun c n e => by cases e⟩
  | none =>
    rw [hq] at h
    cases hi : Lf.item s with
    | none => rw [hi] at h; cases h
    | some t =>
      obtain ⟨c, n, r⟩ := t
      rw [hi] at h
      cases h
      have hr : (Fn.rs s).length ≤ s.length := by unfold Fn.rs; rw [List.length_drop]; omega
      unfold Lf.item at hi
      split at hi
      · cases hi
      · rename_i c' r' hrs
        rw [hrs, List.length_cons] at hr
        split at hi
        · rename_i hcond
          have hc0 : c' ≠ 0 := fun e => by subst e; have := hcond.2.1; revert this; decide
          split at hi
          · cases hi
            exact ⟨by simp, fun c n e => by cases e; exact hc0⟩
          · cases hi
            have := Cl.strip_len (Lf.inner (Fn.cl r') : Int) r'
            exact ⟨by omega, fun c n e => by cases e; exact hc0⟩
        · cases hi
theorem push_sz {N i : Nat} {r : Pb.Rd} (h : Pb.Sz N i r) (hl : r.row.length < 41) (ln : Nat) (o : Option (UInt8 × Nat)) (hc : ∀ c n, o = some (c, n) → c ≠ 0) : Pb.Sz N i (Pb.push (Pb.fresh ln o) r) := by
  have e : (Pb.fresh ln o).all = [] ∧ (Pb.fresh ln o).lst = none := by cases o <;> exact ⟨rfl, rfl⟩
  refine ⟨by simp [Pb.push], by simp only [Pb.push, List.length_cons]; omega, fun c hc' => ?_, fun c hc' s ln is e2 => ?_, fun c hc' e2 => ?_, h.lines, h.text, h.line, h.pls⟩
  · rcases List.mem_cons.1 hc' with rfl | hc'
    · rw [e.1]; simp
    · exact h.kids c hc'
  · rcases List.mem_cons.1 hc' with rfl | hc'
    · rw [e.2] at e2; cases e2
    · exact h.itms c hc' s ln is e2
  · rcases List.mem_cons.1 hc' with rfl | hc'
    · cases o with
      | none => cases e2
      | some p => obtain ⟨c, n⟩ := p; exact hc c n rfl
    · exact h.sign c hc' e2
section
variable {w w' : World} {B R : Nat} {E : Nat → Option Part} {rv lv pv : Value} {M : Mm} {row : List MC} {l : Pb.Of} {ps : List Bk.Pl}
/-- a container more -/
theorem push_done (h : PAt w B E R rv lv pv M row l ps) (d : Pb.Cn) (hd1 : d.all = []) (hd2 : d.lst = none) (hd3 : d.kids = []) {w3 : World} {v : Value} (hown : w3.ownsRow B 167 9 v (row.length + 1) (rowCells row ++ (contArr d none 0 0).toList)) (hg : w.grownBy w3 rv.ownBlock) (hat : At w.heap.size rv v) :
    B ≤ R ∧ R < w3.heap.size ∧ w3.cell? ⟨R, 0, none⟩ = some rv ∧ (∀ j, w3.frozen? ⟨R, j, none⟩ = false) ∧ PAt (w3.setCell ⟨R, 0, none⟩ v) B E R v lv pv M (⟨d, .slice none 0 0, [], .slice none 0 0, []⟩ :: row) l ps := by
  have H1 := h.hp.uput (k := .row) (.row 167 9 v (row.length + 1) (rowCells row ++ (contArr d none 0 0).toList)) rfl hg hown hat
  obtain ⟨hq1, hq2, hqc⟩ := H1.base (k := .rd) rfl
  have m3 := H1.ustore (k := .rd) 0 v rfl
  have m4 := m3.umore (k := .kid row.length) (.row 149 6 (.slice none 0 0) 0 []) (by
    rw [upd_other _ _ (by simp), upd_other _ _ (by simp)]
    show (lev row row.length).map kidRow = none
    rw [lev_none (Nat.le_refl _)]; rfl) (Below.refl _ _) (World.ownsRow_nil _ _ _ _) (fun g e => by cases e)
  refine ⟨hq1, hq2, cell_of hqc rfl, blk_free hqc, m4.same fun j => ?_, fun y hy => ?_, h.old⟩
  · cases j with
    | kid i =>
      show (lev (_ :: row) i).map kidRow = _
      by_cases hi : i = row.length
      · subst hi
        rw [lev_top, upd_same]
        show some (Part.row _ 6 (.slice none 0 0) d.all.length ([] ++ lstCells (.slice none 0 0) d.lst)) = _
        rw [hd1, hd2]; rfl
      · rw [lev_one _ row hi, upd_other _ _ (by simpa using hi), upd_other _ _ (by simp), upd_other _ _ (by simp)]; rfl
    | itm i =>
      show (lev (_ :: row) i).bind itmRow = _
      rw [upd_other _ _ (by simp), upd_other _ _ (by simp), upd_other _ _ (by simp)]
      by_cases hi : i = row.length
      · subst hi
        rw [lev_top]
        show itmRow _ = (lev row row.length).bind itmRow
        rw [lev_none (Nat.le_refl _)]
        unfold itmRow
        simp only
        rw [hd2]; rfl
      · rw [lev_one _ row hi]; rfl
    | row =>
      rw [upd_other _ _ (by simp), upd_other _ _ (by simp), upd_same]
      show some (Part.row _ 9 v (row.length + 1) (rowCells row ++ contCells _)) = _
      rfl
    | rd => rw [upd_other _ _ (by simp), upd_same]; rfl
    | _ => rw [upd_other _ _ (by simp), upd_other _ _ (by simp), upd_other _ _ (by simp)]; rfl
  · rcases List.mem_cons.1 hy with rfl | hy
    · refine ⟨?_, fun s ln is e => ?_⟩
      · show TMs M d.kids []
        rw [hd3]; exact TMs_nil
      · rw [show (MC.mk d (.slice none 0 0) [] (.slice none 0 0) []).c.lst = d.lst from rfl, hd2] at e; cases e
    · exact h.good y hy
end
/-- what is read when a container is pushed -/
def PshS (R cb : Nat) (rv : Value) (cs : Array Value) (u : World) : Prop := u.cell? ⟨R, 0, none⟩ = some rv ∧ u.heap[cb]? = some (.cells cs 167 (0, 0))

set_option maxHeartbeats 4000000 in
set_option maxRecDepth 100000 in
theorem pbegin (w : World) (B : Nat) (E : Nat → Option Part) (R : Nat) (r : Pb.Rd) (h : PS w B E R r) {N i : Nat} (hs : Pb.Sz N i r) (hN : N ≤ 800000000) (hi : i ≤ 100000) (ln k : Nat) (hk : 1 ≤ k) (hkr : k ≤ r.row.length) (s : List UInt8) (hsl : s.length + 1000 ≤ 1000000000) :
    Calls Tryz.prog 119 #[adr R, .int .i64 (ln : Int), .int .i64 (k : Int), .string (bs s)] w fun e w' => e = .returned (.tuple #[.int .i64 ((Pb.begin ln (41 - k) k r s).2.1 : Int), .string (bs (Pb.begin ln (41 - k) k r s).2.2)]) ∧
      PS w' B E R (Pb.begin ln (41 - k) k r s).1 ∧ Pb.Sz (N + 2000) i (Pb.begin ln (41 - k) k r s).1 ∧ 1 ≤ (Pb.begin ln (41 - k) k r s).2.1 ∧ (Pb.begin ln (41 - k) k r s).2.1 ≤ (Pb.begin ln (41 - k) k r s).1.row.length ∧ (Pb.begin ln (41 - k) k r s).2.2.length ≤ s.length + 130 ∧ Below B w w' := by
  have hfew := hs.few
  obtain ⟨G, hG⟩ : ∃ G, Pb.begin ln (41 - k) k r s = G := ⟨_, rfl⟩
  rw [hG]
  replace hG := Lib.hid hG
  replace hs := Lib.hid hs
  replace h := Lib.hid h
  go_enter Tryz.func119, Tryz.ntmps119
  go_wp2_with fail
  go_loopw [2, 3] (fun u t wr => ∃ (j : Nat) (r1 : Pb.Rd) (s1 : List UInt8), u = .int .i64 (j : Int) ∧ t = .string (bs s1) ∧ k ≤ j ∧ j ≤ 41 ∧ s1.length + 3 * k ≤ s.length + 3 * j ∧ Hid (Pb.begin ln (41 - j) j r1 s1 = G) ∧ Hid (PS wr B E R r1) ∧ Hid (Pb.Sz (N + 43 * (j - k)) i r1) ∧ Hid (j ≤ r1.row.length) ∧ Hid (Below B w wr)) (fun u _ _ => 41 - (intOf u).toNat)
  case atStart => exact ⟨k, r, s, rfl, rfl, Nat.le_refl _, by omega, by omega, hG, h, Lib.hid (by rw [Nat.sub_self]; exact hs.out), Lib.hid hkr, Lib.hid (Below.refl _ _)⟩
  case round =>
    obtain ⟨j, r1, s1, rfl, rfl, hkj, hj41, hsl1, hGj, hP, hz, hjr, hb⟩ := hrel
    have q0 := Lib.hid hj41
    have q1 := Lib.hid (show N + 43 * (j - k) ≤ N + 2000 by omega)
    have q2 := Lib.hid (show 1 ≤ j by omega)
    have q3 := Lib.hid (show s1.length ≤ s.length + 130 by omega)
    rcases Nat.lt_or_eq_of_le hj41 with hlt | hje
    · have hfu : 41 - j = (40 - j) + 1 := by omega
      have hGj' := hGj.out
      rw [hfu, Pb.begin] at hGj'
      have hpb := fun w => pbegins ln s1 w (by omega)
      have hj1 : (j : Int) < 41 := by omega
      cases ho : Bk.opener s1 with
      | none =>
        rw [ho] at hpb hGj'
        simp only [openv] at hpb hGj'
        replace hGj' := Lib.hid hGj'
        replace hpb := Lib.hid hpb
        go_wp2_with fail
        refine (hpb.out _).mono ?_
        rintro e w2 ⟨rfl, hb2⟩
        obtain ⟨rv, lv, pv, M, row, hrow, hA⟩ := hP.out
        have hBr : B ≤ wr.heap.size := by have := rd_facts hA; omega
        have hnew := ext_trans hb2 (ext_alloc w2 (.cells #[.int .i64 0, .int .i64 0, .string ⟨#[]⟩, .string ⟨#[]⟩, .int .i64 0, .slice none 0 0, .int .u8 0, .int .i64 0, .int .u8 0] 167))
        have hP2 := Lib.hid (⟨rv, lv, pv, M, row, hrow, PAt.mk (hA.hp.ext hnew) hA.good hA.old⟩ : PS (w2.alloc (.cells #[.int .i64 0, .int .i64 0, .string ⟨#[]⟩, .string ⟨#[]⟩, .int .i64 0, .slice none 0 0, .int .u8 0, .int .i64 0, .int .u8 0] 167)) B E R r1)
        have hbf := Lib.hid (hb.out.trans (hnew.mono hBr))
        clear hA hnew
        go_wp2_with fail
        go_ret2
        rw [← hGj'.out]
        exact ⟨rfl, hP2.out, hz.out.mono q1.out (Nat.le_refl _), q2.out, hjr.out, q3.out, hbf.out⟩
      | some oq =>
        obtain ⟨o, q⟩ := oq
        obtain ⟨hql, hqs⟩ := opener_len ho
        rw [ho] at hpb hGj'
        simp only [openv] at hpb hGj'
        obtain ⟨d, hd⟩ : ∃ d, Pb.fresh ln o = d := ⟨_, rfl⟩
        have hd3 : d.all = [] ∧ d.lst = none ∧ d.kids = [] := by rw [← hd]; cases o <;> exact ⟨rfl, rfl, rfl⟩
        have hcl := closeTo_len (r := r1) (k := j) (by omega) hjr.out
        have hsz := closeTo_sz hz.out j i
        have hsz2 := push_sz hsz (by rw [hcl]; omega) ln o hqs
        rw [hd] at hpb hGj' hsz2
        replace hGj' := Lib.hid hGj'
        replace hpb := Lib.hid hpb
        replace hd := Lib.hid hd
        replace hsz2 := Lib.hid hsz2
        clear hsz
        go_wp2_with fail
        refine (hpb.out _).mono ?_
        rintro e w2 ⟨rfl, hb2⟩
        obtain ⟨rv, lv, pv, M, row, hrow, hA⟩ := hP.out
        have hBr : B ≤ wr.heap.size := by have := rd_facts hA; omega
        have hz2 := hb2.size
        have hA2 := (PAt.mk (hA.hp.ext hb2) hA.good hA.old).ext_in (ext_alloc w2 (.cells (contArr d none 0 0) 167)) (a := .blk w2.heap.size (contArr d none 0 0) 167) ⟨by omega, heap_alloc_new w2 _⟩ (fun g hg => by cases hg; exact Nat.le_refl _)
        have hB2 := hb.out.trans ((ext_trans hb2 (ext_alloc w2 (.cells (contArr d none 0 0) 167))).mono hBr)
        obtain ⟨E', hE'⟩ : ∃ E', shiftE (.blk w2.heap.size (contArr d none 0 0) 167) E = E' := ⟨_, rfl⟩
        rw [hE'] at hA2
        have hE0 : E' 0 = some (.blk w2.heap.size (contArr d none 0 0) 167) := by rw [← hE']; rfl
        have hto := fun wz hz' => pcloseTo wz B E' R r1 hz' hz.out (by omega) hi j (by omega)
        have hP2 := Lib.hid (⟨rv, lv, pv, M, row, hrow, hA2⟩ : PS (w2.alloc (.cells (contArr d none 0 0) 167)) B E' R r1)
        obtain ⟨cb, hcb⟩ : ∃ cb, w2.heap.size = cb := ⟨_, rfl⟩
        rw [hcb] at hE0
        clear hA hA2 hrow row M rv lv pv
        replace hB2 := Lib.hid hB2
        replace hE' := Lib.hid hE'
        replace hE0 := Lib.hid hE0
        replace hto := Lib.hid hto
        replace hcb := Lib.hid hcb
        go_wp2_with fail
        refine (hto.out _ hP2.out).mono ?_
        rintro e w4 ⟨rfl, hP4, hb4⟩
        obtain ⟨rv, lv, pv, M, row, hrow, hA⟩ := hP4
        have hB4 := hB2.out.trans hb4
        have hrl : row.length = j := by have := congrArg List.length hrow; rw [List.length_map, hcl] at this; exact this
        obtain ⟨hR1, hR2, _, c0, _⟩ := rd_facts hA
        have hlb := (hA.hp.base (k := .ext 0) (show E' 0 = some _ from hE0.out)).2.2
        have hown := hA.hp.own (k := .row) rfl
        obtain ⟨rA, rc, hrv, hrc⟩ := own_shape hown
        rw [hrv] at c0 hown
        rw [hrl] at c0 hown hrc
        have hb8 : cb < w4.heap.size := (Array.getElem?_eq_some_iff.1 hlb).1
        have hRo : some R ≠ (Value.slice rA j rc).ownBlock := fun e => by
          have := hA.hp.apart .rd .row _ _ R rfl rfl rfl (by rw [hrv, hrl]; exact e.symm)
          cases this
        have hco : some cb ≠ (Value.slice rA j rc).ownBlock := fun e => by
          have := hA.hp.apart (.ext 0) .row _ _ cb (show E' 0 = some _ from hE0.out) rfl rfl (by rw [hrv, hrl]; exact e.symm)
          cases this
        have hS0 : PshS R cb (.slice rA j rc) (contArr d none 0 0) w4.drew := ⟨c0, hlb⟩
        have hAd := Lib.hid (PAt.mk (hA.hp.ext (ext_drew w4)) hA.good hA.old)
        have hBd := Lib.hid hB4.drew
        have hownd : w4.drew.ownsRow B 167 9 (.slice rA j rc) j (rowCells row) := hown.drew
        have hzd : w4.drew.heap.size = w4.heap.size := rfl
        replace hrow := Lib.hid hrow
        replace hrv := Lib.hid hrv
        replace hrl := Lib.hid hrl
        replace hA := Lib.hid hA
        replace hlb := Lib.hid hlb
        clear hcl hown
        go_wp2_with fail
        rw [hcb.out]
        refine wp_region_bar 10 [(true, 0), (true, 1), (true, 2), (true, 3), (true, 4), (true, 5), (false, 6), (false, 7), (false, 8), (false, 9)] 0 .fin (PshS R cb (.slice rA j rc) (contArr d none 0 0)) hS0 (by kernel_rfl) (by kernel_rfl) (by kernel_rfl) (fun _ _ d _ _ h => by cases d <;> exact h) ?_
        generalize w4.drew = w5 at hS0 hAd hBd hownd hzd ⊢
        clear c0
        repeat (first | refine wpBar_move rfl ?_ | (refine wpBar_cons rfl ?_; intro K hK; go_simp; refine hK _ _ _ ?_; clear hK K))
        refine wpBar_read (.slice rA j rc) rfl rfl hS0 (fun u hu => by obtain ⟨u1, u2⟩ := hu; go_simp) ?_
        refine wpBar_read (.agg #[.int .i64 (d.kind : Int), .int .i64 0, .string ⟨#[]⟩, .string ⟨#[]⟩, .int .i64 (d.line : Int), .slice none 0 0, .int .u8 (d.sign.toNat : Int), .int .i64 (d.col : Int), .int .u8 (d.listSign.toNat : Int)]) rfl rfl hS0 (fun u hu => by
          obtain ⟨u1, u2⟩ := hu
          have y0 := cell_of u2 (j := 0) rfl
          have y1 := cell_of u2 (j := 1) rfl
          have y2 := cell_of u2 (j := 2) rfl
          have y3 := cell_of u2 (j := 3) rfl
          have y4 := cell_of u2 (j := 4) rfl
          have y5 := cell_of u2 (j := 5) rfl
          have y6 := cell_of u2 (j := 6) rfl
          have y7 := cell_of u2 (j := 7) rfl
          have y8 := cell_of u2 (j := 8) rfl
          clear u2
          go_simp) ?_
        refine wpBar_cons rfl ?_
        intro K hK
        go_simp
        obtain ⟨Z, hZ⟩ : ∃ Z : Array Value, contArr d none 0 0 = Z := ⟨_, rfl⟩
        have hZ9 : Z.size = 1 * 9 := by rw [← hZ]; rfl
        have hZ1 : ∀ u ∈ Z.toList, u.oneCell' = true := by rw [← hZ]; intro u hu; simp at hu; rcases hu with rfl | rfl | rfl | rfl | rfl | rfl | rfl | rfl | rfl <;> rfl
        rw [show #[Value.int .i64 (d.kind : Int), .int .i64 0, .string ⟨#[]⟩, .string ⟨#[]⟩, .int .i64 (d.line : Int), .slice none 0 0, .int .u8 (d.sign.toNat : Int), .int .i64 (d.col : Int), .int .u8 (d.listSign.toNat : Int)] = Z from hZ]
        have hz5 : w5.heap.size = w4.heap.size := hzd
        have hS6 : PshS R cb (.slice rA j rc) (contArr d none 0 0) (w5.alloc (.cells Z 167)) := ⟨((ext_alloc w5 _).cell (p := ⟨R, 0, none⟩) (by show R < w5.heap.size; omega)).trans hS0.1, ((ext_alloc w5 _).block _ (by omega)).trans hS0.2⟩
        have hr5 : Row (w5.alloc (.cells Z 167)) (w5.alloc (.cells Z 167)).heap.size 9 (some ⟨w4.heap.size, 0, none⟩) 1 Z.toList := by
          have h9 := Row.freshN w5 167 Z hZ9 rfl
          rw [hz5] at h9; exact h9
        have hB5 : B ≤ (w5.alloc (.cells Z 167)).heap.size := by
          have h9 := (ext_alloc w5 (.cells Z 167)).size
          rw [hz5] at h9; omega
        have hA6 := PAt.mk (hAd.out.hp.ext (ext_alloc w5 (.cells Z 167))) hAd.out.good hAd.out.old
        refine can_same hS6 (hK _ _ _ ?_)
        clear hK K
        refine wpBar_cons rfl ?_
        intro K hK
        unfold canOp
        rw [if_pos (by rfl), if_neg (by simp)]
        refine wp_app_row_big (v := .slice rA j rc) (.tmp 31) (.tmp 33) rfl contEI rfl (hownd.alloc _) rfl hr5 hZ1 (by have := q0.out; omega) (by omega) hB5 ?_
        intro v7 w7 hown7 hg7 hb7 hat7
        obtain ⟨vA7, vc7, rfl, hvc7⟩ := own_shape hown7
        have hS7 : PshS R cb (.slice rA j rc) (contArr d none 0 0) w7 := ⟨hg7.out.cell hS6.1 hRo, (hg7.out.block _ (by simp; omega) hco).trans hS6.2⟩
        subst hZ
        obtain ⟨hf1, hf2, hf3, hf4, hf5⟩ := push_done hA6 d hd3.1 hd3.2.1 hd3.2.2 (v := .slice vA7 (j + 1) vc7) (by rw [hrl.out]; exact hown7) (by rw [hrv.out, hrl.out]; exact hg7.out) (by rw [hrv.out, hrl.out]; exact hat7.out)
        rw [hrv.out, hrl.out] at hf3
        rw [← hE'.out] at hf5
        have hPf := Lib.hid (⟨_, lv, pv, M, _ :: row, by show d :: row.map (·.c) = _; rw [hrow.out]; rfl, hf5.ext_out⟩ : PS (w7.setCell ⟨R, 0, none⟩ (.slice vA7 (j + 1) vc7)) B E R (Pb.push d (Pb.closeTo j r1)))
        have hBf := Lib.hid (((hBd.out.alloc (by omega) _).trans hb7).setCell (p := ⟨R, 0, none⟩) hf1 (.slice vA7 (j + 1) vc7))
        have hpl : (Pb.push d (Pb.closeTo j r1)).row.length = j + 1 := by
          show (d :: (Pb.closeTo j r1).row).length = _
          rw [← hrow.out, List.length_cons, List.length_map, hrl.out]
        replace hpl := Lib.hid (Nat.le_of_eq hpl.symm)
        clear hf5
        refine can_same hS7 (hK _ _ _ ?_)
        clear hK K
        refine wpBar_cons rfl ?_
        intro K hK
        go_simp
        refine can_same hS7 (hK _ _ _ ?_)
        clear hK K
        refine wpBar_cons rfl ?_
        intro K hK
        go_simp
        refine can_same hS7 (hK _ _ _ ?_)
        clear hK K
        refine wpBar_bar rfl rfl ?_
        go_simp
        refine ⟨fun _ => True, trivial, wpT_fin ?_⟩
        go_wp2_with fail
        go_roundw
        case rel => exact ⟨j + 1, Pb.push d (Pb.closeTo j r1), q, by go_num, rfl, by omega, by omega, by omega, Lib.hid (by rw [show 41 - (j + 1) = 40 - j from by omega]; exact hGj'.out), hPf, Lib.hid (hsz2.out.mono (by omega) (Nat.le_refl _)), hpl, hBf⟩
        case measure => simp [intOf]; omega
    · have hGj' := hGj.out
      rw [show 41 - j = 0 from by omega, Pb.begin] at hGj'
      have hj1 : ¬ (j : Int) < 41 := by omega
      replace hGj' := Lib.hid hGj'
      clear hje
      go_wp2_with fail
      go_ret2
      rw [← hGj'.out]
      exact ⟨rfl, hP.out, hz.out.mono q1.out (Nat.le_refl _), q2.out, hjr.out, q3.out, hb.out⟩
end Go.Proofs.YtmmgfoepfapnkaaGreatDoor

namespace Go.Proofs.YtmmgfoepfapnkaaGreatDoor.Pb
open Go.Proofs.YtmmgfoepfapnkaaGreatDoor.Bk (Tree Pl)

theorem ly_tip_len (t : Tree) (r : Rd) : (addTip t r).row.length = r.row.length := by
  unfold addTip
  cases hr : r.row with
  | nil => simp [hr]
  | cons c o => simp
theorem ly_leaf_row (r : Rd) : (closeLeaf r).row.length = r.row.length := by
  unfold closeLeaf
  split
  · exact ly_tip_len _ _
  · split
    · exact ly_tip_len _ _
    · rfl
theorem ly_pops : ∀ (k : Nat) (row : List Cn), (pops k row).length ≤ max (row.length - k) 1 ∧ (pops k row).length ≤ row.length
  | 0, row => by rw [pops]; omega
  | _ + 1, [] => by rw [pops]; simp
  | _ + 1, [c] => by rw [pops]; simp
  | k + 1, d :: c :: o => by
    rw [pops]
    have := ly_pops k (give d c :: o)
    simp only [List.length_cons] at this ⊢
    omega
theorem ly_to_row (k : Nat) (r : Rd) : (closeTo k r).row.length ≤ max k 1 ∧ (closeTo k r).row.length ≤ r.row.length := by
  have h := ly_pops ((closeLeaf r).row.length - k) (closeLeaf r).row
  have h2 := ly_leaf_row r
  unfold closeTo
  simp only
  omega
theorem ly_take : ∀ (l : List Cn) (s : List UInt8), (take l s).2.length ≤ s.length + 3 * l.length ∧ (take l s).1 ≤ l.length
  | [], s => ⟨by unfold take; simp, by unfold take; simp⟩
  | c :: r, s => by
    unfold take
    cases h : c.take s with
    | none => simp only [List.length_cons]; omega
    | some q =>
      have h1 := ly_take r q
      have h2 := cn_take_len h
      simp only [List.length_cons]; omega
theorem ly_begins {s : List UInt8} {f : Fn.Op} (h : Fn.begins s = some f) : f.info.length ≤ s.length := by
  unfold Fn.begins at h
  have hr : (Fn.rs s).length ≤ s.length := by unfold Fn.rs; rw [List.length_drop]; omega
  cases hq : Fn.rs s with
  | nil => rw [hq] at h; cases h
  | cons c r =>
    rw [hq] at h hr
    simp only at h
    split at h
    · cases h
      simp only
      unfold Fn.info
      refine Nat.le_trans (Fn.trim_len _) ?_
      rw [List.length_drop]; omega
    · cases h

/-- a fence's place among the first i lines -/
def fitsIn (M i : Nat) (p : Pl) : Prop := p.first = p.line + 1 ∧ p.first ≤ p.last ∧ p.last ≤ i ∧ (p.closed = true → p.last < i) ∧ p.op.info.length ≤ M
structure Lay (M i : Nat) (r : Rd) : Prop where
  pls : ∀ p ∈ r.places, fitsIn M i p
  ord : r.places.Pairwise fun p q => p.last ≤ q.line
  leaf : r.leaf.kind = 7 → r.leaf.line + 1 + r.leaf.lines.length ≤ i ∧ (r.leaf.ended = true → r.leaf.line + 1 + r.leaf.lines.length < i) ∧ (∀ p ∈ r.places, p.last ≤ r.leaf.line) ∧ r.leaf.op.info.length ≤ M
  few : r.row.length ≤ 41
variable {M : Nat}
theorem Lay.more {i j : Nat} {r : Rd} (h : Lay M i r) (hij : i ≤ j) : Lay M j r :=
  ⟨fun p hp => by obtain ⟨h1, h2, h3, h4, h5⟩ := h.pls p hp; exact ⟨h1, h2, by omega, fun e => by have := h4 e; omega, h5⟩, h.ord, fun e => by obtain ⟨h1, h2, h3, h4⟩ := h.leaf e; exact ⟨by omega, fun e => by have := h2 e; omega, h3, h4⟩, h.few⟩
theorem addTip_same (t : Tree) (r : Rd) : (addTip t r).places = r.places ∧ (addTip t r).leaf = r.leaf := by
  unfold addTip; split <;> exact ⟨rfl, rfl⟩
theorem Lay.tip {i : Nat} {r : Rd} (h : Lay M i r) (t : Tree) : Lay M i (addTip t r) := by
  obtain ⟨h1, h2⟩ := addTip_same t r
  exact ⟨by rw [h1]; exact h.pls, by rw [h1]; exact h.ord, by rw [h1, h2]; exact h.leaf, by rw [ly_tip_len]; exact h.few⟩
theorem noLeaf_lay {i : Nat} {row : List Cn} {ps : List Pl} (h1 : ∀ p ∈ ps, fitsIn M i p) (h2 : ps.Pairwise fun p q => p.last ≤ q.line) (h3 : row.length ≤ 41) : Lay M i ⟨row, noLeaf, ps⟩ :=
  ⟨h1, h2, fun e => (by cases e), h3⟩
theorem Lay.close {i : Nat} {r : Rd} (h : Lay M i r) : Lay M i (closeLeaf r) := by
  have hf := ly_leaf_row r
  have hfew := h.few
  unfold closeLeaf at hf ⊢
  split at hf
  · rename_i h4
    rw [if_pos h4]
    exact ⟨by rw [show ({ addTip (paraTree r.leaf) r with leaf := noLeaf } : Rd).places = r.places from (addTip_same _ r).1]; exact h.pls, by rw [show ({ addTip (paraTree r.leaf) r with leaf := noLeaf } : Rd).places = r.places from (addTip_same _ r).1]; exact h.ord, fun e => (by cases e), by rw [hf]; exact hfew⟩
  · rename_i h4
    rw [if_neg h4]
    split at hf
    · rename_i h7
      rw [if_pos h7]
      obtain ⟨h1, h2, h3, h5⟩ := h.leaf h7
      split
      · refine noLeaf_lay (fun p hp => ?_) ?_ (by rw [ly_tip_len]; exact hfew)
        · rcases List.mem_append.1 hp with hp | hp
          · exact h.pls p hp
          · rw [List.mem_singleton.1 hp]
            exact ⟨rfl, by simp [Of.place], h1, h2, h5⟩
        · rw [List.pairwise_append]
          refine ⟨h.ord, by simp, fun p hp q hq => ?_⟩
          rw [List.mem_singleton.1 hq]
          exact h3 p hp
      · exact noLeaf_lay h.pls h.ord (by rw [ly_tip_len]; exact hfew)
    · rename_i h7
      rw [if_neg h7]
      exact noLeaf_lay h.pls h.ord hfew
theorem Lay.to {i : Nat} {r : Rd} (h : Lay M i r) (k : Nat) : Lay M i (closeTo k r) := by
  have h1 := ly_to_row k r
  have hc := h.close
  have hf := h.few
  exact ⟨hc.pls, hc.ord, hc.leaf, by omega⟩
theorem Lay.begin {i : Nat} (ln : Nat) : ∀ (m k : Nat) {r : Rd} (s : List UInt8), m + k ≤ 41 → Lay M i r → Lay M i (begin ln m k r s).1 ∧ (begin ln m k r s).2.2.length ≤ s.length + 3 * m
  | 0, _, _, _, _, h => ⟨h, by unfold Pb.begin; simp⟩
  | m + 1, k, r, s, hmk, h => by
    rw [Pb.begin]
    cases ho : Bk.opener s with
    | none => exact ⟨h, by simp only; omega⟩
    | some oq =>
      obtain ⟨o, q⟩ := oq
      have hl := (opener_len ho).1
      have ht := h.to k
      have h1 := (ly_to_row k r).1
      have hp : Lay M i (push (fresh ln o) (closeTo k r)) := ⟨ht.pls, ht.ord, ht.leaf, by show (fresh ln o :: (closeTo k r).row).length ≤ 41; rw [List.length_cons]; omega⟩
      obtain ⟨h2, h3⟩ := Lay.begin ln m (k + 1) q (by omega) hp
      exact ⟨h2, by simp only; omega⟩
theorem Lay.leafLine {i : Nat} {r : Rd} (h : Lay M i r) (k : Nat) (s : List UInt8) (hs : s.length ≤ M) : Lay M (i + 1) (leafLine i k s r) := by
  have hc := (h.to k).more (Nat.le_succ i)
  unfold Pb.leafLine
  split
  · exact hc
  · split
    · exact hc.tip _
    · split
      · exact hc.tip _
      · split
        · rename_i f hf
          exact ⟨hc.pls, hc.ord, fun _ => ⟨by simp, fun e => (by simp at e), fun p hp => ((h.to k).pls p hp).2.2.1, Nat.le_trans (ly_begins hf) hs⟩, hc.few⟩
        · split
          · rename_i h4
            exact ⟨(h.more (Nat.le_succ i)).pls, h.ord, fun e => by rw [show r.leaf.kind = 4 from h4] at e; exact absurd e (by decide), h.few⟩
          · exact ⟨hc.pls, hc.ord, fun e => (by cases e), hc.few⟩
theorem Lay.fenceLine {i : Nat} {r : Rd} (h : Lay M i r) (s : List UInt8) : Lay M (i + 1) (fenceLine s r) := by
  have hm := h.more (Nat.le_succ i)
  unfold Pb.fenceLine
  split
  · refine Lay.close ⟨hm.pls, hm.ord, fun e => ?_, hm.few⟩
    obtain ⟨h1, h2, h3, h4⟩ := h.leaf e
    exact ⟨by simp only; omega, fun _ => by simp only; omega, h3, h4⟩
  · refine ⟨hm.pls, hm.ord, fun e => ?_, hm.few⟩
    obtain ⟨h1, h2, h3, h4⟩ := h.leaf e
    exact ⟨by simp; omega, fun e => by have := h2 e; simp; omega, h3, h4⟩
theorem Lay.line {i : Nat} {r : Rd} (h : Lay M i r) (s : List UInt8) (hs : s.length + 246 ≤ M) : Lay M (i + 1) (takeLine i s r) := by
  have ht := ly_take r.row.reverse s
  rw [List.length_reverse] at ht
  have hf := h.few
  unfold Pb.takeLine
  split
  · exact h.fenceLine _
  · obtain ⟨h1, h2⟩ := Lay.begin (M := M) i (41 - (take r.row.reverse s).1) (take r.row.reverse s).1 (take r.row.reverse s).2 (by omega) h
    exact h1.leafLine _ _ (by omega)
theorem Lay.lines : ∀ (ls : List (List UInt8)) (i : Nat) {r : Rd}, (∀ s ∈ ls, s.length + 246 ≤ M) → Lay M i r → Lay M (i + ls.length) (lines ls i r)
  | [], _, _, _, h => h
  | s :: t, i, r, hs, h => by
    rw [Pb.lines, List.length_cons, show i + (t.length + 1) = i + 1 + t.length from by omega]
    exact Lay.lines t (i + 1) (fun x hx => hs x (List.mem_cons_of_mem _ hx)) (h.line s (hs s List.mem_cons_self))
/-- all fences of a document -/
theorem read_lay (ls : List (List UInt8)) (hs : ∀ s ∈ ls, s.length + 246 ≤ M) : Lay M ls.length (read ls) := by
  have := Lay.lines ls 0 (r := start) hs ⟨fun p hp => (by cases hp), by unfold start; exact List.Pairwise.nil, fun e => (by cases e), by decide⟩
  rw [Nat.zero_add] at this
  exact this.to 1
end Go.Proofs.YtmmgfoepfapnkaaGreatDoor.Pb

namespace Go.Proofs.YtmmgfoepfapnkaaGreatDoor
open Go.RowKit
attribute [local go_sem] canOp readsAs readUpon

theorem TM_leaf2 (M : Mm) (kd lv : Nat) (t inf : List UInt8) (ln : Nat) : TM M (.mk kd lv t inf ln []) [.int .i64 (kd : Int), .int .i64 (lv : Int), .string (bs t), .string (bs inf), .int .i64 (ln : Int), .slice none 0 0] := by
  unfold TM
  exact ⟨none, 0, [], rfl, Nat.le_refl _, ⟨rfl, fun h => by cases h⟩, TMs_nil⟩
abbrev opArr (f : Fn.Op) : Array Value := #[.int .u8 (f.c.toNat : Int), .int .i64 (f.n : Int), .int .i64 (f.ind : Int), .string (bs f.info)]
theorem pbegv_form (o : Option Fn.Op) : ∃ (f : Fn.Op) (ok : Bool), begv o = .tuple #[.agg (opArr f), .bool ok] ∧ (ok = true → o = some f) ∧ (ok = false → o = none) := by
  cases o with
  | none => exact ⟨⟨0, 0, 0, []⟩, false, rfl, fun h => (by cases h), fun _ => rfl⟩
  | some f => exact ⟨f, true, rfl, fun _ => rfl, fun h => (by cases h)⟩
theorem stringEI : EI Tryz.prog 39 9 1 16 := textEI
section
variable {w w' : World} {B R : Nat} {E : Nat → Option Part} {rv lv pv : Value} {M : Mm} {row : List MC} {l : Pb.Of} {ps : List Bk.Pl}
/-- a line more of the leaf -/
theorem lines_done (h : PAt w B E R rv lv pv M row l ps) (t : List UInt8) {w3 : World} {v : Value} (hown : w3.ownsRow B 9 1 v (l.lines.length + 1) (scells l.lines ++ [.string (bs t)])) (hg : w.grownBy w3 lv.ownBlock) (hat : At w.heap.size lv v) :
    B ≤ R ∧ R < w3.heap.size ∧ w3.cell? ⟨R, 3, none⟩ = some lv ∧ (∀ j, w3.frozen? ⟨R, j, none⟩ = false) ∧ PAt (w3.setCell ⟨R, 3, none⟩ v) B E R rv v pv M row { l with lines := l.lines ++ [t] } ps := by
  have H1 := h.hp.uput (k := .lns) (.row 9 1 v (l.lines.length + 1) (scells l.lines ++ ([.string (bs t)] : List Value))) rfl hg hown hat
  obtain ⟨hq1, hq2, hqc⟩ := H1.base (k := .rd) rfl
  have m3 := H1.ustore (k := .rd) 3 v rfl
  refine ⟨hq1, hq2, cell_of hqc rfl, blk_free hqc, m3.same fun j => ?_, h.good, h.old⟩
  cases j with
  | lns =>
    show some (Part.row _ 1 v (l.lines ++ [t]).length (scells (l.lines ++ [t]))) = _
    have e : scells (l.lines ++ [t]) = scells l.lines ++ [.string (bs t)] := by simp [scells]
    rw [e, List.length_append]; rfl
  | rd => rfl
  | _ => rfl
/-- a leaf that begins with a line, which lies in a new block -/
theorem leaf_new {nb : Nat} {t : List UInt8} (h : PAt w B (shiftE (.blk nb #[.string (bs t)] 9) E) R rv lv pv M row l ps) (l' : Pb.Of) (hl : l'.lines = [t]) :
    PAt (set8 w R (.int .i64 (l'.kind : Int)) (.int .i64 (l'.line : Int)) (.slice (some ⟨nb, 0, none⟩) 1 1) (.int .u8 (l'.op.c.toNat : Int)) (.int .i64 (l'.op.n : Int)) (.int .i64 (l'.op.ind : Int)) (.string (bs l'.op.info)) (.bool l'.ended)) B E R rv (.slice (some ⟨nb, 0, none⟩) 1 1) pv M row l' ps := by
  obtain ⟨hR1, _, hRh⟩ := h.hp.base (k := .rd) rfl
  have m8 := h.hp.uput (k := .rd) (.blk R ⟨rdCells rv (.slice (some ⟨nb, 0, none⟩) 1 1) pv l'⟩ 138) rfl (set8_grown (.int .i64 (l'.kind : Int)) (.int .i64 (l'.line : Int)) (.slice (some ⟨nb, 0, none⟩) 1 1) (.int .u8 (l'.op.c.toNat : Int)) (.int .i64 (l'.op.n : Int)) (.int .i64 (l'.op.ind : Int)) (.string (bs l'.op.info)) (.bool l'.ended)) ⟨hR1, set8_at hRh _ _ _ _ _ _ _ _⟩ (fun _ e => .inl e)
  have hE0 := m8.holds (.ext 0) (.blk nb #[.string (bs t)] 9) rfl
  refine ⟨m8.turn (fun k => match k with | .lns => .ext 0 | .ext i => .ext (i + 1) | k => k) (fun i j _ _ _ _ e => ?_) (fun k a hk => ?_), h.good, h.old⟩
  · cases i <;> cases j <;> simp_all
  · cases k with
    | rd => exact ⟨a, hk, m8.holds .rd a hk, fun _ e => e⟩
    | row => exact ⟨a, hk, m8.holds .row a hk, fun _ e => e⟩
    | kid i => exact ⟨a, hk, m8.holds (.kid i) a hk, fun _ e => e⟩
    | itm i => exact ⟨a, hk, m8.holds (.itm i) a hk, fun _ e => e⟩
    | pls => exact ⟨a, hk, m8.holds .pls a hk, fun _ e => e⟩
    | old i => exact ⟨a, hk, m8.holds (.old i) a hk, fun _ e => e⟩
    | ext i => exact ⟨a, hk, m8.holds (.ext (i + 1)) a hk, fun _ e => e⟩
    | lns =>
      have e : (Part.row 9 1 (.slice (some ⟨nb, 0, none⟩) 1 1) l'.lines.length (scells l'.lines)) = a := Option.some.inj hk
      subst e
      rw [hl]
      exact ⟨_, rfl, ⟨rfl, .inr ⟨nb, 1, _, rfl, hE0.1, hE0.2, Nat.le_refl _, by unfold maxLen; omega, rfl, rfl⟩⟩, fun _ e => e⟩
end

set_option maxHeartbeats 2000000 in
set_option maxRecDepth 100000 in
/-- a line that is empty -/
theorem lf_empty (w : World) (B : Nat) (E : Nat → Option Part) (R : Nat) (r : Pb.Rd) (h : PS w B E R r) {N i : Nat} (hs : Pb.Sz N i r) (hN : N ≤ 900000000) (hi : i ≤ 100000) (ln k : Nat) (hk : 1 ≤ k) (s : List UInt8) (hn : Nat) (ht : List UInt8) (ho : Bool) (f : Fn.Op) (fo : Bool)
    (hhd : ∀ w, Calls Tryz.prog 150 #[.string (bs s)] w fun e w' => e = .returned (.tuple #[.int .i64 (hn : Int), .string (bs ht), .bool ho]) ∧ Below w.heap.size w w')
    (hbg : ∀ w, Calls Tryz.prog 151 #[.string (bs s)] w fun e w' => e = .returned (.tuple #[.agg (opArr f), .bool fo]) ∧ Below w.heap.size w w')
    (hem : ∀ w, Calls Tryz.prog 152 #[.string (bs s)] w fun e w' => e = .returned (.bool true) ∧ w = w') :
    Calls Tryz.prog 120 #[adr R, .int .i64 (ln : Int), .int .i64 (k : Int), .string (bs s)] w fun e w' => e = .returned (.tuple #[]) ∧ PS w' B E R (Pb.closeTo k r) ∧ Below B w w' := by
  obtain ⟨rv, lv, pv, M, row, hrow, hA⟩ := h
  have hBw : B ≤ w.heap.size := by have := rd_facts hA; omega
  have hto := fun wz hz' => pcloseTo wz B E R r hz' hs hN hi k hk
  replace hA := Lib.hid hA
  replace hrow := Lib.hid hrow
  replace hto := Lib.hid hto
  go_enter Tryz.func120, Tryz.ntmps120
  go_wp2_with fail
  refine (hhd _).mono ?_
  rintro e w1 ⟨rfl, hb1⟩
  go_wp2_with fail
  refine (hbg _).mono ?_
  rintro e w2 ⟨rfl, hb2⟩
  have hb3 := Lib.hid (ext_trans (ext_trans hb1 hb2) (ext_alloc w2 (.cells (opArr f) 105)))
  have hP3 := Lib.hid (⟨rv, lv, pv, M, row, hrow.out, PAt.mk (hA.out.hp.ext hb3.out) hA.out.good hA.out.old⟩ : PS (w2.alloc (.cells (opArr f) 105)) B E R r)
  clear hb1 hb2
  go_wp2_with fail
  refine (hem _).mono ?_
  rintro e w3 ⟨rfl, rfl⟩
  go_wp2_with fail
  refine (hto.out _ hP3.out).mono ?_
  rintro e w4 ⟨rfl, hP4, hb4⟩
  replace hP4 := Lib.hid hP4
  have hbf := Lib.hid ((hb3.out.mono hBw).trans hb4)
  go_wp2_with fail
  go_returns
  exact ⟨rfl, hP4.out, hbf.out⟩
end Go.Proofs.YtmmgfoepfapnkaaGreatDoor

namespace Go.Proofs.YtmmgfoepfapnkaaGreatDoor
open Go.RowKit
attribute [local go_sem] canOp readsAs readUpon

set_option maxHeartbeats 2000000 in
set_option maxRecDepth 100000 in
/-- a line that is a heading -/
theorem lf_heading (w : World) (B : Nat) (E : Nat → Option Part) (R : Nat) (r : Pb.Rd) (h : PS w B E R r) {N i : Nat} (hs : Pb.Sz N i r) (hN : N ≤ 800000000) (hi : i ≤ 100000) (ln k : Nat) (hk : 1 ≤ k) (s : List UInt8) (hn : Nat) (ht : List UInt8) (f : Fn.Op) (fo : Bool)
    (hhd : ∀ w, Calls Tryz.prog 150 #[.string (bs s)] w fun e w' => e = .returned (.tuple #[.int .i64 (hn : Int), .string (bs ht), .bool true]) ∧ Below w.heap.size w w')
    (hbg : ∀ w, Calls Tryz.prog 151 #[.string (bs s)] w fun e w' => e = .returned (.tuple #[.agg (opArr f), .bool fo]) ∧ Below w.heap.size w w')
    (hem : ∀ w, Calls Tryz.prog 152 #[.string (bs s)] w fun e w' => e = .returned (.bool false) ∧ w = w')
    : Calls Tryz.prog 120 #[adr R, .int .i64 (ln : Int), .int .i64 (k : Int), .string (bs s)] w fun e w' => e = .returned (.tuple #[]) ∧ PS w' B E R (Pb.addTip (.mk 5 hn ht [] ln []) (Pb.closeTo k r)) ∧ Below B w w' := by
  obtain ⟨rv, lv, pv, M, row, hrow, hA⟩ := h
  have hBw : B ≤ w.heap.size := by have := rd_facts hA; omega
  have hto := fun (E' : Nat → Option Part) wz hz' => pcloseTo wz B E' R r hz' hs (by omega) hi k hk
  have hsz := closeTo_sz hs k i
  replace hA := Lib.hid hA
  replace hrow := Lib.hid hrow
  replace hto := Lib.hid hto
  replace hsz := Lib.hid hsz
  go_enter Tryz.func120, Tryz.ntmps120
  go_wp2_with fail
  refine (hhd _).mono ?_
  rintro e w1 ⟨rfl, hb1⟩
  go_wp2_with fail
  refine (hbg _).mono ?_
  rintro e w2 ⟨rfl, hb2⟩
  have hb3 := Lib.hid (ext_trans (ext_trans hb1 hb2) (ext_alloc w2 (.cells (opArr f) 105)))
  have hA3 := Lib.hid ((PAt.mk (hA.out.hp.ext (ext_trans hb1 hb2)) hA.out.good hA.out.old).ext_in (ext_alloc w2 (.cells (opArr f) 105)) (a := .blk w2.heap.size (opArr f) 105) ⟨by have := hb1.size; have := hb2.size; omega, heap_alloc_new w2 _⟩ (fun g hg => by cases hg; exact Nat.le_refl _))
  obtain ⟨E', hE'⟩ : ∃ E', shiftE (.blk w2.heap.size (opArr f) 105) E = E' := ⟨_, rfl⟩
  rw [hE'] at hA3
  have hE0 : E' 0 = some (.blk w2.heap.size (opArr f) 105) := by rw [← hE']; rfl
  replace hE' := Lib.hid hE'
  replace hE0 := Lib.hid hE0
  clear hb1 hb2
  go_wp2_with fail
  refine (hem _).mono ?_
  rintro e w3 ⟨rfl, rfl⟩
  go_wp2_with fail
  refine (hto.out E' _ ⟨rv, lv, pv, M, row, hrow.out, hA3.out⟩).mono ?_
  rintro e w4 ⟨rfl, hP4, hb4⟩
  have hb5 := (hb3.out.mono hBw).trans hb4
  obtain ⟨rv4, lv4, pv4, M4, row4, hrow4, hA4⟩ := hP4
  cases row4 with
  | nil => have := hsz.out.pos; rw [← hrow4] at this; simp at this
  | cons x t =>
    obtain ⟨g, cc, hrv, _⟩ := row_facts hA4
    have hlen : t.length ≤ 1000 := by have := hsz.out.few; rw [← hrow4] at this; simp at this; omega
    have hkids : x.c.all.length ≤ 1000000000 := by have := hsz.out.kids x.c (by rw [← hrow4]; simp); omega
    have hla := fun wz h => pb_plast_any wz B E' R rv4 lv4 pv4 M4 x t (Pb.closeTo k r).leaf (Pb.closeTo k r).places h g cc hrv hlen
    have hadd := fun wz h => padd_any wz B E' R rv4 lv4 pv4 M4 x t (Pb.closeTo k r).leaf (Pb.closeTo k r).places h g cc hrv (.mk 5 hn ht [] ln []) _ (TM_leaf2 M4 5 hn ht [] ln) hlen hkids
    have hfin : Pb.addTip (.mk 5 hn ht [] ln []) (Pb.closeTo k r) = { Pb.closeTo k r with row := x.c.add (.mk 5 hn ht [] ln []) :: t.map (·.c) } := by
      unfold Pb.addTip; rw [← hrow4]; rfl
    replace hfin := Lib.hid hfin
    replace hla := Lib.hid hla
    replace hadd := Lib.hid hadd
    replace hA4 := Lib.hid hA4
    replace hb5 := Lib.hid hb5
    replace hrow4 := Lib.hid hrow4
    replace hrv := Lib.hid hrv
    go_wp2_with fail
    refine (hla.out _ hA4.out).mono ?_
    rintro e w6 ⟨rfl, hb6⟩
    have hA6 := Lib.hid (PAt.mk (hA4.out.hp.ext hb6) hA4.out.good hA4.out.old)
    have hb7 := Lib.hid (hb5.out.trans (hb6.mono (by have := rd_facts hA4.out; omega)))
    clear hb6
    go_wp2_with fail
    refine (hadd.out _ hA6.out).mono ?_
    rintro e w8 ⟨rfl, ⟨M8, x8, hx8, hA8⟩, hb8⟩
    rw [← hE'.out] at hA8
    have hPf := Lib.hid (by rw [hfin.out]; exact ⟨rv4, lv4, pv4, M8, x8 :: t, by simp [hx8], hA8.ext_out⟩ : PS w8 B E R (Pb.addTip (.mk 5 hn ht [] ln []) (Pb.closeTo k r)))
    have hbf := Lib.hid (hb7.out.trans hb8)
    clear hA8
    go_wp2_with fail
    go_returns
    exact ⟨rfl, hPf.out, hbf.out⟩

set_option maxHeartbeats 2000000 in
set_option maxRecDepth 100000 in
/-- a line that is a break -/
theorem lf_break (w : World) (B : Nat) (E : Nat → Option Part) (R : Nat) (r : Pb.Rd) (h : PS w B E R r) {N i : Nat} (hs : Pb.Sz N i r) (hN : N ≤ 800000000) (hi : i ≤ 100000) (ln k : Nat) (hk : 1 ≤ k) (s : List UInt8) (hn : Nat) (ht : List UInt8) (f : Fn.Op) (fo : Bool)
    (hhd : ∀ w, Calls Tryz.prog 150 #[.string (bs s)] w fun e w' => e = .returned (.tuple #[.int .i64 (hn : Int), .string (bs ht), .bool false]) ∧ Below w.heap.size w w')
    (hbg : ∀ w, Calls Tryz.prog 151 #[.string (bs s)] w fun e w' => e = .returned (.tuple #[.agg (opArr f), .bool fo]) ∧ Below w.heap.size w w')
    (hem : ∀ w, Calls Tryz.prog 152 #[.string (bs s)] w fun e w' => e = .returned (.bool false) ∧ w = w')
    (hbr : ∀ w, Calls Tryz.prog 153 #[.string (bs s)] w fun e w' => e = .returned (.bool true) ∧ Below w.heap.size w w')
    : Calls Tryz.prog 120 #[adr R, .int .i64 (ln : Int), .int .i64 (k : Int), .string (bs s)] w fun e w' => e = .returned (.tuple #[]) ∧ PS w' B E R (Pb.addTip (.mk 6 0 [] [] ln []) (Pb.closeTo k r)) ∧ Below B w w' := by
  obtain ⟨rv, lv, pv, M, row, hrow, hA⟩ := h
  have hBw : B ≤ w.heap.size := by have := rd_facts hA; omega
  have hto := fun (E' : Nat → Option Part) wz hz' => pcloseTo wz B E' R r hz' hs (by omega) hi k hk
  have hsz := closeTo_sz hs k i
  replace hA := Lib.hid hA
  replace hrow := Lib.hid hrow
  replace hto := Lib.hid hto
  replace hsz := Lib.hid hsz
  go_enter Tryz.func120, Tryz.ntmps120
  go_wp2_with fail
  refine (hhd _).mono ?_
  rintro e w1 ⟨rfl, hb1⟩
  go_wp2_with fail
  refine (hbg _).mono ?_
  rintro e w2 ⟨rfl, hb2⟩
  have hb3 := Lib.hid (ext_trans (ext_trans hb1 hb2) (ext_alloc w2 (.cells (opArr f) 105)))
  have hA3 := Lib.hid ((PAt.mk (hA.out.hp.ext (ext_trans hb1 hb2)) hA.out.good hA.out.old).ext_in (ext_alloc w2 (.cells (opArr f) 105)) (a := .blk w2.heap.size (opArr f) 105) ⟨by have := hb1.size; have := hb2.size; omega, heap_alloc_new w2 _⟩ (fun g hg => by cases hg; exact Nat.le_refl _))
  obtain ⟨E', hE'⟩ : ∃ E', shiftE (.blk w2.heap.size (opArr f) 105) E = E' := ⟨_, rfl⟩
  rw [hE'] at hA3
  have hE0 : E' 0 = some (.blk w2.heap.size (opArr f) 105) := by rw [← hE']; rfl
  replace hE' := Lib.hid hE'
  replace hE0 := Lib.hid hE0
  clear hb1 hb2
  go_wp2_with fail
  refine (hem _).mono ?_
  rintro e w3 ⟨rfl, rfl⟩
  go_wp2_with fail
  refine (hbr _).mono ?_
  rintro e w3 ⟨rfl, hb3b⟩
  replace hA3 := Lib.hid (PAt.mk (hA3.out.hp.ext hb3b) hA3.out.good hA3.out.old)
  replace hb3 := Lib.hid (ext_trans hb3.out hb3b)
  go_wp2_with fail
  refine (hto.out E' _ ⟨rv, lv, pv, M, row, hrow.out, hA3.out⟩).mono ?_
  rintro e w4 ⟨rfl, hP4, hb4⟩
  have hb5 := (hb3.out.mono hBw).trans hb4
  obtain ⟨rv4, lv4, pv4, M4, row4, hrow4, hA4⟩ := hP4
  cases row4 with
  | nil => have := hsz.out.pos; rw [← hrow4] at this; simp at this
  | cons x t =>
    obtain ⟨g, cc, hrv, _⟩ := row_facts hA4
    have hlen : t.length ≤ 1000 := by have := hsz.out.few; rw [← hrow4] at this; simp at this; omega
    have hkids : x.c.all.length ≤ 1000000000 := by have := hsz.out.kids x.c (by rw [← hrow4]; simp); omega
    have hla := fun wz h => pb_plast_any wz B E' R rv4 lv4 pv4 M4 x t (Pb.closeTo k r).leaf (Pb.closeTo k r).places h g cc hrv hlen
    have hadd := fun wz h => padd_any wz B E' R rv4 lv4 pv4 M4 x t (Pb.closeTo k r).leaf (Pb.closeTo k r).places h g cc hrv (.mk 6 0 [] [] ln []) _ (TM_leaf2 M4 6 0 [] [] ln) hlen hkids
    have hfin : Pb.addTip (.mk 6 0 [] [] ln []) (Pb.closeTo k r) = { Pb.closeTo k r with row := x.c.add (.mk 6 0 [] [] ln []) :: t.map (·.c) } := by
      unfold Pb.addTip; rw [← hrow4]; rfl
    replace hfin := Lib.hid hfin
    replace hla := Lib.hid hla
    replace hadd := Lib.hid hadd
    replace hA4 := Lib.hid hA4
    replace hb5 := Lib.hid hb5
    replace hrow4 := Lib.hid hrow4
    replace hrv := Lib.hid hrv
    go_wp2_with fail
    refine (hla.out _ hA4.out).mono ?_
    rintro e w6 ⟨rfl, hb6⟩
    have hA6 := Lib.hid (PAt.mk (hA4.out.hp.ext hb6) hA4.out.good hA4.out.old)
    have hb7 := Lib.hid (hb5.out.trans (hb6.mono (by have := rd_facts hA4.out; omega)))
    clear hb6
    go_wp2_with fail
    refine (hadd.out _ hA6.out).mono ?_
    rintro e w8 ⟨rfl, ⟨M8, x8, hx8, hA8⟩, hb8⟩
    rw [← hE'.out] at hA8
    have hPf := Lib.hid (by rw [hfin.out]; exact ⟨rv4, lv4, pv4, M8, x8 :: t, by simp [hx8], hA8.ext_out⟩ : PS w8 B E R (Pb.addTip (.mk 6 0 [] [] ln []) (Pb.closeTo k r)))
    have hbf := Lib.hid (hb7.out.trans hb8)
    clear hA8
    go_wp2_with fail
    go_returns
    exact ⟨rfl, hPf.out, hbf.out⟩

set_option maxHeartbeats 2000000 in
set_option maxRecDepth 100000 in
/-- a line that begins a fence -/
theorem lf_fence (w : World) (B : Nat) (E : Nat → Option Part) (R : Nat) (r : Pb.Rd) (h : PS w B E R r) {N i : Nat} (hs : Pb.Sz N i r) (hN : N ≤ 800000000) (hi : i ≤ 100000) (ln k : Nat) (hk : 1 ≤ k) (s : List UInt8) (hn : Nat) (ht : List UInt8) (f : Fn.Op) 
    (hhd : ∀ w, Calls Tryz.prog 150 #[.string (bs s)] w fun e w' => e = .returned (.tuple #[.int .i64 (hn : Int), .string (bs ht), .bool false]) ∧ Below w.heap.size w w')
    (hbg : ∀ w, Calls Tryz.prog 151 #[.string (bs s)] w fun e w' => e = .returned (.tuple #[.agg (opArr f), .bool true]) ∧ Below w.heap.size w w')
    (hem : ∀ w, Calls Tryz.prog 152 #[.string (bs s)] w fun e w' => e = .returned (.bool false) ∧ w = w')
    (hbr : ∀ w, Calls Tryz.prog 153 #[.string (bs s)] w fun e w' => e = .returned (.bool false) ∧ Below w.heap.size w w')
    : Calls Tryz.prog 120 #[adr R, .int .i64 (ln : Int), .int .i64 (k : Int), .string (bs s)] w fun e w' => e = .returned (.tuple #[]) ∧ PS w' B E R ({ Pb.closeTo k r with leaf := ⟨7, ln, [], f, false⟩ }) ∧ Below B w w' := by
  obtain ⟨rv, lv, pv, M, row, hrow, hA⟩ := h
  have hBw : B ≤ w.heap.size := by have := rd_facts hA; omega
  have hto := fun (E' : Nat → Option Part) wz hz' => pcloseTo wz B E' R r hz' hs (by omega) hi k hk
  have hsz := closeTo_sz hs k i
  replace hA := Lib.hid hA
  replace hrow := Lib.hid hrow
  replace hto := Lib.hid hto
  replace hsz := Lib.hid hsz
  go_enter Tryz.func120, Tryz.ntmps120
  go_wp2_with fail
  refine (hhd _).mono ?_
  rintro e w1 ⟨rfl, hb1⟩
  go_wp2_with fail
  refine (hbg _).mono ?_
  rintro e w2 ⟨rfl, hb2⟩
  have hb3 := Lib.hid (ext_trans (ext_trans hb1 hb2) (ext_alloc w2 (.cells (opArr f) 105)))
  have hA3 := Lib.hid ((PAt.mk (hA.out.hp.ext (ext_trans hb1 hb2)) hA.out.good hA.out.old).ext_in (ext_alloc w2 (.cells (opArr f) 105)) (a := .blk w2.heap.size (opArr f) 105) ⟨by have := hb1.size; have := hb2.size; omega, heap_alloc_new w2 _⟩ (fun g hg => by cases hg; exact Nat.le_refl _))
  obtain ⟨E', hE'⟩ : ∃ E', shiftE (.blk w2.heap.size (opArr f) 105) E = E' := ⟨_, rfl⟩
  rw [hE'] at hA3
  have hE0 : E' 0 = some (.blk w2.heap.size (opArr f) 105) := by rw [← hE']; rfl
  replace hE' := Lib.hid hE'
  replace hE0 := Lib.hid hE0
  clear hb1 hb2
  go_wp2_with fail
  refine (hem _).mono ?_
  rintro e w3 ⟨rfl, rfl⟩
  go_wp2_with fail
  refine (hbr _).mono ?_
  rintro e w3 ⟨rfl, hb3b⟩
  replace hA3 := Lib.hid (PAt.mk (hA3.out.hp.ext hb3b) hA3.out.good hA3.out.old)
  replace hb3 := Lib.hid (ext_trans hb3.out hb3b)
  go_wp2_with fail
  refine (hto.out E' _ ⟨rv, lv, pv, M, row, hrow.out, hA3.out⟩).mono ?_
  rintro e w4 ⟨rfl, hP4, hb4⟩
  have hb5 := (hb3.out.mono hBw).trans hb4
  obtain ⟨rv4, lv4, pv4, M4, row4, hrow4, hA4⟩ := hP4
  obtain ⟨hR1, hR2, hRf, c0, c1, c2, c3, c4, c5, c6, c7, c8, _⟩ := rd_facts hA4
  obtain ⟨fb, hfb⟩ : ∃ fb, w2.heap.size = fb := ⟨_, rfl⟩
  rw [hfb] at hE0
  obtain ⟨f0, f1, f2, f3⟩ := four (hA4.hp.base (k := .ext 0) (show E' 0 = some _ from hE0.out)).2.2
  obtain ⟨lA4, lc4, hlv4, _⟩ := own_shape (hA4.hp.own (k := .lns) rfl)
  rw [hlv4] at c3
  have hset := leaf_set hA4 ⟨7, ln, [], f, false⟩ (lv' := .slice none 0 0) rfl rfl
  rw [← hE'.out] at hset
  have hPf := Lib.hid (⟨rv4, .slice none 0 0, pv4, M4, row4, hrow4, hset.ext_out⟩ : PS (set8 w4 R (.int .i64 ((7 : Nat) : Int)) (.int .i64 (ln : Int)) (.slice none 0 0) (.int .u8 (f.c.toNat : Int)) (.int .i64 (f.n : Int)) (.int .i64 (f.ind : Int)) (.string (bs f.info)) (.bool false)) B E R { Pb.closeTo k r with leaf := ⟨7, ln, [], f, false⟩ })
  have hbf := Lib.hid (set8_below hb5 hR1 (.int .i64 ((7 : Nat) : Int)) (.int .i64 (ln : Int)) (.slice none 0 0) (.int .u8 (f.c.toNat : Int)) (.int .i64 (f.n : Int)) (.int .i64 (f.ind : Int)) (.string (bs f.info)) (.bool false))
  replace hA4 := Lib.hid hA4
  replace hrow4 := Lib.hid hrow4
  replace hfb := Lib.hid hfb
  clear hset c0
  rw [hfb.out]
  go_wp2_with fail
  go_returns
  exact ⟨rfl, hPf.out, hbf.out⟩
end Go.Proofs.YtmmgfoepfapnkaaGreatDoor

namespace Go.Proofs.YtmmgfoepfapnkaaGreatDoor
open Go.RowKit
attribute [local go_sem] canOp readsAs readUpon

theorem set8_alloc (w : World) (o : Obj) {R : Nat} (hR : R < w.heap.size) (a1 a2 a3 a4 a5 a6 a7 a8 : Value) : set8 (w.alloc o) R a1 a2 a3 a4 a5 a6 a7 a8 = (set8 w R a1 a2 a3 a4 a5 a6 a7 a8).alloc o := by
  unfold set8
  rw [World.setCell_alloc_past _ R 1 _ hR, World.setCell_alloc_past _ R 2 _ (by simp [World.setCell]; exact hR), World.setCell_alloc_past _ R 3 _ (by simp [World.setCell]; exact hR), World.setCell_alloc_past _ R 4 _ (by simp [World.setCell]; exact hR),
    World.setCell_alloc_past _ R 5 _ (by simp [World.setCell]; exact hR), World.setCell_alloc_past _ R 6 _ (by simp [World.setCell]; exact hR), World.setCell_alloc_past _ R 7 _ (by simp [World.setCell]; exact hR), World.setCell_alloc_past _ R 8 _ (by simp [World.setCell]; exact hR)]
/-- what is read when a line is laid -/
def LnsS (R : Nat) (lv : Value) (d : Nat) (u : World) : Prop := u.cell? ⟨R, 3, none⟩ = some lv ∧ u.cell? ⟨R, 6, none⟩ = some (.int .i64 (d : Int))

set_option maxHeartbeats 2000000 in
set_option maxRecDepth 100000 in
/-- text that goes on -/
theorem lf_more (w : World) (B : Nat) (E : Nat → Option Part) (R : Nat) (r : Pb.Rd) (h : PS w B E R r) {N i : Nat} (hs : Pb.Sz N i r) (hN : N ≤ 800000000) (hi : i ≤ 100000) (ln k : Nat) (hk : 1 ≤ k) (s : List UInt8) (hn : Nat) (ht : List UInt8) (f : Fn.Op) 
    (hhd : ∀ w, Calls Tryz.prog 150 #[.string (bs s)] w fun e w' => e = .returned (.tuple #[.int .i64 (hn : Int), .string (bs ht), .bool false]) ∧ Below w.heap.size w w')
    (hbg : ∀ w, Calls Tryz.prog 151 #[.string (bs s)] w fun e w' => e = .returned (.tuple #[.agg (opArr f), .bool false]) ∧ Below w.heap.size w w')
    (hem : ∀ w, Calls Tryz.prog 152 #[.string (bs s)] w fun e w' => e = .returned (.bool false) ∧ w = w')
    (hbr : ∀ w, Calls Tryz.prog 153 #[.string (bs s)] w fun e w' => e = .returned (.bool false) ∧ Below w.heap.size w w')
    (h4 : r.leaf.kind = 4) (T : List UInt8) (htr : ∀ w, Calls Tryz.prog 154 #[.string (bs s), .string ⟨#[32, 9]⟩] w fun e w' => e = .returned (.string (bs T)) ∧ Below w.heap.size w w')
    : Calls Tryz.prog 120 #[adr R, .int .i64 (ln : Int), .int .i64 (k : Int), .string (bs s)] w fun e w' => e = .returned (.tuple #[]) ∧ PS w' B E R ({ r with leaf := { r.leaf with lines := r.leaf.lines ++ [T] } }) ∧ Below B w w' := by
  obtain ⟨rv, lv, pv, M, row, hrow, hA⟩ := h
  have hBw : B ≤ w.heap.size := by have := rd_facts hA; omega
  have hto := fun (E' : Nat → Option Part) wz hz' => pcloseTo wz B E' R r hz' hs (by omega) hi k hk
  have hsz := closeTo_sz hs k i
  replace hA := Lib.hid hA
  replace hrow := Lib.hid hrow
  replace hto := Lib.hid hto
  replace hsz := Lib.hid hsz
  go_enter Tryz.func120, Tryz.ntmps120
  go_wp2_with fail
  refine (hhd _).mono ?_
  rintro e w1 ⟨rfl, hb1⟩
  go_wp2_with fail
  refine (hbg _).mono ?_
  rintro e w2 ⟨rfl, hb2⟩
  have hb3 := Lib.hid (ext_trans (ext_trans hb1 hb2) (ext_alloc w2 (.cells (opArr f) 105)))
  have hA3 := Lib.hid ((PAt.mk (hA.out.hp.ext (ext_trans hb1 hb2)) hA.out.good hA.out.old).ext_in (ext_alloc w2 (.cells (opArr f) 105)) (a := .blk w2.heap.size (opArr f) 105) ⟨by have := hb1.size; have := hb2.size; omega, heap_alloc_new w2 _⟩ (fun g hg => by cases hg; exact Nat.le_refl _))
  obtain ⟨E', hE'⟩ : ∃ E', shiftE (.blk w2.heap.size (opArr f) 105) E = E' := ⟨_, rfl⟩
  rw [hE'] at hA3
  have hE0 : E' 0 = some (.blk w2.heap.size (opArr f) 105) := by rw [← hE']; rfl
  replace hE' := Lib.hid hE'
  replace hE0 := Lib.hid hE0
  clear hb1 hb2
  go_wp2_with fail
  refine (hem _).mono ?_
  rintro e w3 ⟨rfl, rfl⟩
  go_wp2_with fail
  refine (hbr _).mono ?_
  rintro e w3 ⟨rfl, hb3b⟩
  replace hA3 := Lib.hid (PAt.mk (hA3.out.hp.ext hb3b) hA3.out.good hA3.out.old)
  replace hb3 := Lib.hid (ext_trans hb3.out hb3b)
  obtain ⟨hR1, hR2, hRf, _, c1, c2, c3, c4, c5, c6, _⟩ := rd_facts hA3.out
  rw [h4] at c1
  replace h4 := Lib.hid h4
  have hown := hA3.out.hp.own (k := .lns) rfl
  obtain ⟨lA, lc, hlv, hlc⟩ := own_shape hown
  rw [hlv] at c3 hown
  obtain ⟨n, hnn⟩ : ∃ n, r.leaf.lines.length = n := ⟨_, rfl⟩
  have hnl := hs.lines
  rw [hnn] at c3 hown hnl
  obtain ⟨cd, hcd⟩ : ∃ cd, r.leaf.op.ind = cd := ⟨_, rfl⟩
  rw [hcd] at c6
  have hw3 : B ≤ w3.heap.size := by omega
  have hB4 := Lib.hid ((hb3.out.mono hBw).drew)
  have hS0 : LnsS R (.slice lA n lc) cd w3.drew := ⟨c3, c6⟩
  have hAd := Lib.hid (PAt.mk (hA3.out.hp.ext (ext_drew w3)) hA3.out.good hA3.out.old)
  have hownd : w3.drew.ownsRow B 9 1 (.slice lA n lc) n (scells r.leaf.lines) := hown.drew
  have hR2d : R < w3.drew.heap.size := hR2
  have hRo : some R ≠ (Value.slice lA n lc).ownBlock := fun e => by
    have := hA3.out.hp.apart .rd .lns _ _ R rfl rfl rfl (by rw [hlv, hnn]; exact e.symm)
    cases this
  replace hnn := Lib.hid hnn
  replace hlv := Lib.hid hlv
  replace hcd := Lib.hid hcd
  clear hown c2 c4 c5 hRf
  go_wp2_with fail
  refine wp_region_bar 13 [(true, 0), (true, 1), (true, 2), (true, 3), (true, 4), (true, 5), (true, 6), (false, 7), (false, 8), (false, 9), (false, 10), (false, 11), (false, 12)] 0 .fin (LnsS R (.slice lA n lc) cd) hS0 (by kernel_rfl) (by kernel_rfl) (by kernel_rfl) (fun _ _ d _ _ h => by cases d <;> exact h) ?_
  generalize w3.drew = w5 at hS0 hAd hB4 hownd hR2d ⊢
  clear c1 c3 c6 hR2 hw3
  repeat (first | refine wpBar_move rfl ?_ | (refine wpBar_cons rfl ?_; intro K hK; go_simp; refine hK _ _ _ ?_; clear hK K))
  refine wpBar_read (.slice lA n lc) rfl rfl hS0 (fun u hu => by obtain ⟨u1, u2⟩ := hu; go_simp) ?_
  repeat (first | refine wpBar_move rfl ?_ | (refine wpBar_cons rfl ?_; intro K hK; go_simp; refine hK _ _ _ ?_; clear hK K))
  refine wpBar_cons rfl ?_
  intro K hK
  go_simp
  refine (htr _).mono ?_
  rintro e w6 ⟨rfl, hb6⟩
  have hz6 := hb6.size
  have hS6 : LnsS R (.slice lA n lc) cd w6 := ⟨(hb6.cell (p := ⟨R, 3, none⟩) hR2d).trans hS0.1, (hb6.cell (p := ⟨R, 6, none⟩) hR2d).trans hS0.2⟩
  have hA6 := PAt.mk (hAd.out.hp.ext (ext_trans hb6 (ext_alloc w6 (.cells #[.string (bs T)] 9)))) hAd.out.good hAd.out.old
  have hown6 : (w6.alloc (.cells #[.string (bs T)] 9)).ownsRow B 9 1 (.slice lA n lc) n (scells r.leaf.lines) := (own_below hownd hb6).alloc _
  have hr6 := Row.freshN w6 9 #[Value.string (bs T)] (size := 1) (n := 1) rfl rfl
  have hB6 : Below B w w6 := hB4.out.trans (hb6.mono (by omega))
  have hS7 : LnsS R (.slice lA n lc) cd (w6.alloc (.cells #[.string (bs T)] 9)) := ⟨((ext_alloc w6 _).cell (p := ⟨R, 3, none⟩) (by show R < w6.heap.size; omega)).trans hS6.1, ((ext_alloc w6 _).cell (p := ⟨R, 6, none⟩) (by show R < w6.heap.size; omega)).trans hS6.2⟩
  have hB7 : B ≤ (w6.alloc (.cells #[.string (bs T)] 9)).heap.size := by have := (ext_alloc w6 (.cells #[.string (bs T)] 9)).size; omega
  replace hA6 := Lib.hid hA6
  refine can_same hS6 (hK _ _ _ ?_)
  clear hK K
  refine wpBar_cons rfl ?_
  intro K hK
  go_simp
  refine can_same hS7 (hK _ _ _ ?_)
  clear hK K
  refine wpBar_cons rfl ?_
  intro K hK
  unfold canOp
  rw [if_pos (by rfl), if_neg (by simp)]
  refine wp_app_row_at (v := .slice lA n lc) (.tmp 87) (.tmp 90) rfl stringEI rfl hown6 rfl hr6 (by intro u hu; simp at hu; subst hu; rfl) (by omega) (by omega) hB7 ?_
  intro v7 w7 hown7 hg7 hb7 hat7
  obtain ⟨vA7, vc7, rfl, hvc7⟩ := own_shape hown7
  have hS8 : LnsS R (.slice lA n lc) cd w7 := ⟨hg7.out.cell hS7.1 hRo, hg7.out.cell hS7.2 hRo⟩
  obtain ⟨hf1, hf2, hf3, hf4, hf5⟩ := lines_done hA6.out T (v := .slice vA7 (n + 1) vc7) (by rw [hnn.out]; exact hown7) (by rw [hlv.out, hnn.out]; exact hg7.out) (by rw [hlv.out, hnn.out]; exact hat7.out)
  rw [hlv.out, hnn.out] at hf3
  rw [← hE'.out] at hf5
  have hPf := Lib.hid (⟨rv, .slice vA7 (n + 1) vc7, pv, M, row, hrow.out, hf5.ext_out⟩ : PS (w7.setCell ⟨R, 3, none⟩ (.slice vA7 (n + 1) vc7)) B E R { r with leaf := { r.leaf with lines := r.leaf.lines ++ [T] } })
  have hBf := Lib.hid (((hB6.alloc (by omega) _).trans hb7).setCell (p := ⟨R, 3, none⟩) hf1 (.slice vA7 (n + 1) vc7))
  clear hf5
  refine can_same hS8 (hK _ _ _ ?_)
  clear hK K
  refine wpBar_cons rfl ?_
  intro K hK
  go_simp
  refine can_same hS8 (hK _ _ _ ?_)
  clear hK K
  refine wpBar_cons rfl ?_
  intro K hK
  go_simp
  refine can_same hS8 (hK _ _ _ ?_)
  clear hK K
  refine wpBar_cons rfl ?_
  intro K hK
  go_simp
  refine can_same hS8 (hK _ _ _ ?_)
  clear hK K
  refine wpBar_bar rfl rfl ?_
  go_simp
  refine ⟨fun _ => True, trivial, wpT_fin ?_⟩
  go_wp2_with fail
  go_returns
  exact ⟨rfl, hPf.out, hBf.out⟩

set_option maxHeartbeats 2000000 in
set_option maxRecDepth 100000 in
/-- text that begins -/
theorem lf_para (w : World) (B : Nat) (E : Nat → Option Part) (R : Nat) (r : Pb.Rd) (h : PS w B E R r) {N i : Nat} (hs : Pb.Sz N i r) (hN : N ≤ 800000000) (hi : i ≤ 100000) (ln k : Nat) (hk : 1 ≤ k) (s : List UInt8) (hn : Nat) (ht : List UInt8) (f : Fn.Op) 
    (hhd : ∀ w, Calls Tryz.prog 150 #[.string (bs s)] w fun e w' => e = .returned (.tuple #[.int .i64 (hn : Int), .string (bs ht), .bool false]) ∧ Below w.heap.size w w')
    (hbg : ∀ w, Calls Tryz.prog 151 #[.string (bs s)] w fun e w' => e = .returned (.tuple #[.agg (opArr f), .bool false]) ∧ Below w.heap.size w w')
    (hem : ∀ w, Calls Tryz.prog 152 #[.string (bs s)] w fun e w' => e = .returned (.bool false) ∧ w = w')
    (hbr : ∀ w, Calls Tryz.prog 153 #[.string (bs s)] w fun e w' => e = .returned (.bool false) ∧ Below w.heap.size w w')
    (h4 : r.leaf.kind ≠ 4) (T : List UInt8) (htr : ∀ w, Calls Tryz.prog 154 #[.string (bs s), .string ⟨#[32, 9]⟩] w fun e w' => e = .returned (.string (bs T)) ∧ Below w.heap.size w w')
    : Calls Tryz.prog 120 #[adr R, .int .i64 (ln : Int), .int .i64 (k : Int), .string (bs s)] w fun e w' => e = .returned (.tuple #[]) ∧ PS w' B E R ({ Pb.closeTo k r with leaf := ⟨4, ln, [T], Pb.noOp, false⟩ }) ∧ Below B w w' := by
  obtain ⟨rv, lv, pv, M, row, hrow, hA⟩ := h
  have hBw : B ≤ w.heap.size := by have := rd_facts hA; omega
  have hto := fun (E' : Nat → Option Part) wz hz' => pcloseTo wz B E' R r hz' hs (by omega) hi k hk
  have hsz := closeTo_sz hs k i
  replace hA := Lib.hid hA
  replace hrow := Lib.hid hrow
  replace hto := Lib.hid hto
  replace hsz := Lib.hid hsz
  go_enter Tryz.func120, Tryz.ntmps120
  go_wp2_with fail
  refine (hhd _).mono ?_
  rintro e w1 ⟨rfl, hb1⟩
  go_wp2_with fail
  refine (hbg _).mono ?_
  rintro e w2 ⟨rfl, hb2⟩
  have hb3 := Lib.hid (ext_trans (ext_trans hb1 hb2) (ext_alloc w2 (.cells (opArr f) 105)))
  have hA3 := Lib.hid ((PAt.mk (hA.out.hp.ext (ext_trans hb1 hb2)) hA.out.good hA.out.old).ext_in (ext_alloc w2 (.cells (opArr f) 105)) (a := .blk w2.heap.size (opArr f) 105) ⟨by have := hb1.size; have := hb2.size; omega, heap_alloc_new w2 _⟩ (fun g hg => by cases hg; exact Nat.le_refl _))
  obtain ⟨E', hE'⟩ : ∃ E', shiftE (.blk w2.heap.size (opArr f) 105) E = E' := ⟨_, rfl⟩
  rw [hE'] at hA3
  have hE0 : E' 0 = some (.blk w2.heap.size (opArr f) 105) := by rw [← hE']; rfl
  replace hE' := Lib.hid hE'
  replace hE0 := Lib.hid hE0
  clear hb1 hb2
  go_wp2_with fail
  refine (hem _).mono ?_
  rintro e w3 ⟨rfl, rfl⟩
  go_wp2_with fail
  refine (hbr _).mono ?_
  rintro e w3 ⟨rfl, hb3b⟩
  replace hA3 := Lib.hid (PAt.mk (hA3.out.hp.ext hb3b) hA3.out.good hA3.out.old)
  replace hb3 := Lib.hid (ext_trans hb3.out hb3b)
  obtain ⟨hR1, hR2, hRf, _, c1, _⟩ := rd_facts hA3.out
  have t4 : ((r.leaf.kind : Int) == 4) = false := by rw [beq_eq_false_iff_ne]; omega
  go_wp2_with fail
  refine (hto.out E' _ ⟨rv, lv, pv, M, row, hrow.out, hA3.out⟩).mono ?_
  rintro e w4 ⟨rfl, hP4, hb4⟩
  have hb5 := (hb3.out.mono hBw).trans hb4
  obtain ⟨rv4, lv4, pv4, M4, row4, hrow4, hA4⟩ := hP4
  clear c1 hR2 hRf hR1
  replace hA4 := Lib.hid hA4
  replace hb5 := Lib.hid hb5
  replace hrow4 := Lib.hid hrow4
  go_wp2_with fail
  refine (htr _).mono ?_
  rintro e w6 ⟨rfl, hb6⟩
  have hB4z : B ≤ w4.heap.size := by have := rd_facts hA4.out; omega
  have hz6 := hb6.size
  have hA7 := (PAt.mk (hA4.out.hp.ext hb6) hA4.out.good hA4.out.old).ext_in (ext_alloc w6 (.cells #[.string (bs T)] 9)) (a := .blk w6.heap.size #[.string (bs T)] 9) ⟨by omega, heap_alloc_new w6 _⟩ (fun g hg => by cases hg; exact Nat.le_refl _)
  have hb7 := (hb5.out.trans (hb6.mono hB4z)).alloc (by omega) (.cells #[.string (bs T)] 9)
  have hset := leaf_new hA7 ⟨4, ln, [T], Pb.noOp, false⟩ rfl
  have hA6 := PAt.mk (hA4.out.hp.ext hb6) hA4.out.good hA4.out.old
  obtain ⟨hR1, hR2, hRf, c0, c1, c2, c3, c4, c5, c6, c7, c8, _⟩ := rd_facts hA6
  obtain ⟨lA4, lc4, hlv4, _⟩ := own_shape (hA6.hp.own (k := .lns) rfl)
  rw [hlv4] at c3
  rw [← hE'.out] at hset
  have hbf := set8_below hb7 hR1 (.int .i64 ((4 : Nat) : Int)) (.int .i64 (ln : Int)) (.slice (some ⟨w6.heap.size, 0, none⟩) 1 1) (.int .u8 (Pb.noOp.c.toNat : Int)) (.int .i64 (Pb.noOp.n : Int)) (.int .i64 (Pb.noOp.ind : Int)) (.string (bs Pb.noOp.info)) (.bool false)
  have hPf := Lib.hid (by rw [set8_alloc _ _ hR2] at hset; exact ⟨rv4, _, pv4, M4, row4, hrow4.out, hset.ext_out⟩ : PS ((set8 w6 R (.int .i64 ((4 : Nat) : Int)) (.int .i64 (ln : Int)) (.slice (some ⟨w6.heap.size, 0, none⟩) 1 1) (.int .u8 (Pb.noOp.c.toNat : Int)) (.int .i64 (Pb.noOp.n : Int)) (.int .i64 (Pb.noOp.ind : Int)) (.string (bs Pb.noOp.info)) (.bool false)).alloc (.cells #[.string (bs T)] 9)) B E R { Pb.closeTo k r with leaf := ⟨4, ln, [T], Pb.noOp, false⟩ })
  rw [set8_alloc _ _ hR2] at hbf
  replace hbf := Lib.hid hbf
  replace hA7 := Lib.hid hA7
  replace hA6 := Lib.hid hA6
  clear hset c0 hb7
  go_wp2_with fail
  go_returns
  exact ⟨rfl, hPf.out, hbf.out⟩
end Go.Proofs.YtmmgfoepfapnkaaGreatDoor

namespace Go.Proofs.YtmmgfoepfapnkaaGreatDoor
open Go.RowKit
attribute [local go_sem] canOp readsAs readUpon

theorem pleafLine (w : World) (B : Nat) (E : Nat → Option Part) (R : Nat) (r : Pb.Rd) (h : PS w B E R r) {N i : Nat} (hs : Pb.Sz N i r) (hN : N ≤ 800000000) (hi : i ≤ 100000) (ln k : Nat) (hk : 1 ≤ k) (s : List UInt8) (hl : s.length + 100 ≤ 140737488355328) :
    Calls Tryz.prog 120 #[adr R, .int .i64 (ln : Int), .int .i64 (k : Int), .string (bs s)] w fun e w' => e = .returned (.tuple #[]) ∧ PS w' B E R (Pb.leafLine ln k s r) ∧ Below B w w' := by
  have hhd := fun w => phead_any s w hl
  have hbg := fun w => begins_any s w (by omega)
  have hbr := fun w => pbrk_any s w hl
  have htr := fun w => trim_any s w (by omega)
  obtain ⟨hn, ht, ho, hhf⟩ := headv_form (Lf.heading s)
  obtain ⟨f, fo, hbf, hb1, hb2⟩ := pbegv_form (Fn.begins s)
  rw [hhf] at hhd
  rw [hbf] at hbg
  unfold Pb.leafLine
  by_cases he : Fn.emp s = true
  · rw [if_pos he]
    exact lf_empty w B E R r h hs (by omega) hi ln k hk s hn ht ho f fo hhd hbg (fun w => pempty_at s true he w (by omega))
  · rw [if_neg he]
    have hem := fun w => pempty_at s false (by simpa using he) w (by omega)
    cases hh : Lf.heading s with
    | some p =>
      obtain ⟨n, t⟩ := p
      rw [hh] at hhf
      unfold headv at hhf
      injection hhf with e
      have e1 := congrArg (fun a => a[0]?) e
      have e2 := congrArg (fun a => a[1]?) e
      have e3 := congrArg (fun a => a[2]?) e
      simp at e1 e2 e3
      obtain rfl : n = hn := by omega
      have e4 : t = ht := by have := congrArg ByteArray.toList e2; rwa [bs_toList, bs_toList] at this
      subst e4
      subst e3
      exact lf_heading w B E R r h hs hN hi ln k hk s n t f fo hhd hbg hem
    | none =>
      rw [hh] at hhf
      unfold headv at hhf
      injection hhf with e
      have e3 := congrArg (fun a => a[2]?) e
      simp at e3
      subst e3
      simp only
      by_cases hb : Lf.brk s = true
      · rw [if_pos hb]
        exact lf_break w B E R r h hs hN hi ln k hk s hn ht f fo hhd hbg hem (by rw [hb] at hbr; exact hbr)
      · rw [if_neg hb]
        have hbr' : Lf.brk s = false := by simpa using hb
        rw [hbr'] at hbr
        cases fo with
        | true =>
          rw [hb1 rfl]
          exact lf_fence w B E R r h hs hN hi ln k hk s hn ht f hhd hbg hem hbr
        | false =>
          rw [hb2 rfl]
          simp only
          by_cases h4 : r.leaf.kind = 4
          · rw [if_pos h4]
            exact lf_more w B E R r h hs hN hi ln k hk s hn ht f hhd hbg hem hbr h4 (Fn.trim s) htr
          · rw [if_neg h4]
            exact lf_para w B E R r h hs hN hi ln k hk s hn ht f hhd hbg hem hbr h4 (Fn.trim s) htr

theorem ended_set {w : World} {B R : Nat} {E : Nat → Option Part} {rv lv pv : Value} {M : Mm} {row : List MC} {l : Pb.Of} {ps : List Bk.Pl} (h : PAt w B E R rv lv pv M row l ps) : PAt (w.setCell ⟨R, 8, none⟩ (.bool true)) B E R rv lv pv M row { l with ended := true } ps := by
  have m := h.hp.ustore (k := .rd) 8 (.bool true) rfl
  exact ⟨m.same fun j => by cases j <;> rfl, h.good, h.old⟩

set_option maxHeartbeats 2000000 in
set_option maxRecDepth 100000 in
theorem pfl_ends (w : World) (B : Nat) (E : Nat → Option Part) (R : Nat) (r : Pb.Rd) (h : PS w B E R r) {N i : Nat} (hs : Pb.Sz N i r) (hN : N ≤ 800000000) (hi : i ≤ 100000) (s : List UInt8)
    (hen : ∀ w, Calls Tryz.prog 147 #[.agg (opArr r.leaf.op), .string (bs s)] w fun e w' => e = .returned (.bool true) ∧ Below w.heap.size w w') :
    Calls Tryz.prog 118 #[adr R, .string (bs s)] w fun e w' => e = .returned (.tuple #[]) ∧ PS w' B E R (Pb.closeLeaf { r with leaf := { r.leaf with ended := true } }) ∧ Below B w w' := by
  obtain ⟨rv, lv, pv, M, row, hrow, hA⟩ := h
  obtain ⟨hR1, hR2, hRf, _, _, _, _, c4, c5, c6, c7, _⟩ := rd_facts hA
  have hcl := fun wz hz => pcloseLeaf wz B E R { r with leaf := { r.leaf with ended := true } } hz (hs.leaf { r.leaf with ended := true } hs.lines hs.text hs.line) (by omega) hi
  replace hA := Lib.hid hA
  replace hrow := Lib.hid hrow
  replace hcl := Lib.hid hcl
  go_enter Tryz.func118, Tryz.ntmps118
  go_wp2_with fail
  refine (hen _).mono ?_
  rintro e w1 ⟨rfl, hb1⟩
  have hA1 := PAt.mk (hA.out.hp.ext hb1) hA.out.good hA.out.old
  obtain ⟨_, hR3, hRf3, _, _, _, _, _, _, _, _, c8, _⟩ := rd_facts hA1
  have hP2 := Lib.hid (⟨rv, lv, pv, M, row, hrow.out, ended_set hA1⟩ : PS (w1.setCell ⟨R, 8, none⟩ (.bool true)) B E R { r with leaf := { r.leaf with ended := true } })
  have hB2 := Lib.hid ((hb1.mono (by omega : B ≤ w.heap.size)).setCell (p := ⟨R, 8, none⟩) hR1 (.bool true))
  clear hA1 hb1 c4 c5 c6 c7
  go_wp2_with fail
  refine (hcl.out _ hP2.out).mono ?_
  rintro e w3 ⟨rfl, hP3, hb3⟩
  replace hP3 := Lib.hid hP3
  have hbf := Lib.hid (hB2.out.trans hb3)
  go_wp2_with fail
  go_returns
  exact ⟨rfl, hP3.out, hbf.out⟩

set_option maxHeartbeats 2000000 in
set_option maxRecDepth 100000 in
theorem pfl_more (w : World) (B : Nat) (E : Nat → Option Part) (R : Nat) (r : Pb.Rd) (h : PS w B E R r) {N i : Nat} (hs : Pb.Sz N i r) (hi : i ≤ 100000) (s T : List UInt8)
    (hen : ∀ w, Calls Tryz.prog 147 #[.agg (opArr r.leaf.op), .string (bs s)] w fun e w' => e = .returned (.bool false) ∧ Below w.heap.size w w')
    (htr : ∀ w, Calls Tryz.prog 148 #[.string (bs s), .int .i64 (r.leaf.op.ind : Int)] w fun e w' => e = .returned (.string (bs T)) ∧ Below w.heap.size w w') :
    Calls Tryz.prog 118 #[adr R, .string (bs s)] w fun e w' => e = .returned (.tuple #[]) ∧ PS w' B E R { r with leaf := { r.leaf with lines := r.leaf.lines ++ [T] } } ∧ Below B w w' := by
  obtain ⟨rv, lv, pv, M, row, hrow, hA00⟩ := h
  obtain ⟨hR1z, hR2z, _, _, _, _, _, d4, d5, d6, d7, _⟩ := rd_facts hA00
  replace hA00 := Lib.hid hA00
  replace hrow := Lib.hid hrow
  go_enter Tryz.func118, Tryz.ntmps118
  go_wp2_with fail
  refine (hen _).mono ?_
  rintro e w9 ⟨rfl, hb9⟩
  have hA := PAt.mk (hA00.out.hp.ext hb9) hA00.out.good hA00.out.old
  have hB9 := hb9.mono (by omega : B ≤ w.heap.size)
  clear d4 d5 d6 d7 hb9
  obtain ⟨hR1, hR2, hRf, _, c1, c2, c3, c4, c5, c6, _⟩ := rd_facts hA
  have hown := hA.hp.own (k := .lns) rfl
  obtain ⟨lA, lc, hlv, hlc⟩ := own_shape hown
  rw [hlv] at c3 hown
  obtain ⟨n, hnn⟩ : ∃ n, r.leaf.lines.length = n := ⟨_, rfl⟩
  have hnl := hs.lines
  rw [hnn] at c3 hown hnl
  obtain ⟨cd, hcd⟩ : ∃ cd, r.leaf.op.ind = cd := ⟨_, rfl⟩
  rw [hcd] at c6
  have hw3 : B ≤ w9.heap.size := by omega
  have hB4 := Lib.hid (hB9.drew)
  have hS0 : LnsS R (.slice lA n lc) cd w9.drew := ⟨c3, c6⟩
  have hAd := Lib.hid (PAt.mk (hA.hp.ext (ext_drew w9)) hA.good hA.old)
  have hownd : w9.drew.ownsRow B 9 1 (.slice lA n lc) n (scells r.leaf.lines) := hown.drew
  have hR2d : R < w9.drew.heap.size := hR2
  have hRo : some R ≠ (Value.slice lA n lc).ownBlock := fun e => by
    have := hA.hp.apart .rd .lns _ _ R rfl rfl rfl (by rw [hlv, hnn]; exact e.symm)
    cases this
  replace hnn := Lib.hid hnn
  replace hlv := Lib.hid hlv
  replace hcd := Lib.hid hcd
  clear hown c2 c4 c5 hRf
  replace hA := Lib.hid hA
  rw [hcd.out] at htr
  go_wp2_with fail
  refine wp_region_bar 19 [(true, 0), (true, 1), (true, 2), (true, 3), (true, 4), (true, 5), (true, 6), (true, 7), (true, 8), (true, 9), (true, 10), (true, 11), (true, 12), (false, 13), (false, 14), (false, 15), (false, 16), (false, 17), (false, 18)] 0 .fin (LnsS R (.slice lA n lc) cd) hS0 (by kernel_rfl) (by kernel_rfl) (by kernel_rfl) (fun _ _ d _ _ h => by cases d <;> exact h) ?_
  generalize w9.drew = w5 at hS0 hAd hB4 hownd hR2d ⊢
  clear c1 c3 c6 hR2 hw3
  repeat (first | refine wpBar_move rfl ?_ | (refine wpBar_cons rfl ?_; intro K hK; go_simp; refine hK _ _ _ ?_; clear hK K))
  refine wpBar_read (.slice lA n lc) rfl rfl hS0 (fun u hu => by obtain ⟨u1, u2⟩ := hu; go_simp) ?_
  repeat (first | refine wpBar_move rfl ?_ | (refine wpBar_cons rfl ?_; intro K hK; go_simp; refine hK _ _ _ ?_; clear hK K))
  refine wpBar_read (.int .i64 (cd : Int)) rfl rfl hS0 (fun u hu => by obtain ⟨u1, u2⟩ := hu; go_simp) ?_
  refine wpBar_cons rfl ?_
  intro K hK
  go_simp
  refine (htr _).mono ?_
  rintro e w6 ⟨rfl, hb6⟩
  have hz6 := hb6.size
  have hS6 : LnsS R (.slice lA n lc) cd w6 := ⟨(hb6.cell (p := ⟨R, 3, none⟩) hR2d).trans hS0.1, (hb6.cell (p := ⟨R, 6, none⟩) hR2d).trans hS0.2⟩
  have hA6 := PAt.mk (hAd.out.hp.ext (ext_trans hb6 (ext_alloc w6 (.cells #[.string (bs T)] 9)))) hAd.out.good hAd.out.old
  have hown6 : (w6.alloc (.cells #[.string (bs T)] 9)).ownsRow B 9 1 (.slice lA n lc) n (scells r.leaf.lines) := (own_below hownd hb6).alloc _
  have hr6 := Row.freshN w6 9 #[Value.string (bs T)] (size := 1) (n := 1) rfl rfl
  have hB6 : Below B w w6 := hB4.out.trans (hb6.mono (by omega))
  have hS7 : LnsS R (.slice lA n lc) cd (w6.alloc (.cells #[.string (bs T)] 9)) := ⟨((ext_alloc w6 _).cell (p := ⟨R, 3, none⟩) (by show R < w6.heap.size; omega)).trans hS6.1, ((ext_alloc w6 _).cell (p := ⟨R, 6, none⟩) (by show R < w6.heap.size; omega)).trans hS6.2⟩
  have hB7 : B ≤ (w6.alloc (.cells #[.string (bs T)] 9)).heap.size := by have := (ext_alloc w6 (.cells #[.string (bs T)] 9)).size; omega
  replace hA6 := Lib.hid hA6
  refine can_same hS6 (hK _ _ _ ?_)
  clear hK K
  refine wpBar_cons rfl ?_
  intro K hK
  go_simp
  refine can_same hS7 (hK _ _ _ ?_)
  clear hK K
  refine wpBar_cons rfl ?_
  intro K hK
  unfold canOp
  rw [if_pos (by rfl), if_neg (by simp)]
  refine wp_app_row_at (v := .slice lA n lc) (.tmp 22) (.tmp 31) rfl stringEI rfl hown6 rfl hr6 (by intro u hu; simp at hu; subst hu; rfl) (by omega) (by omega) hB7 ?_
  intro v7 w7 hown7 hg7 hb7 hat7
  obtain ⟨vA7, vc7, rfl, hvc7⟩ := own_shape hown7
  have hS8 : LnsS R (.slice lA n lc) cd w7 := ⟨hg7.out.cell hS7.1 hRo, hg7.out.cell hS7.2 hRo⟩
  obtain ⟨hf1, hf2, hf3, hf4, hf5⟩ := lines_done hA6.out T (v := .slice vA7 (n + 1) vc7) (by rw [hnn.out]; exact hown7) (by rw [hlv.out, hnn.out]; exact hg7.out) (by rw [hlv.out, hnn.out]; exact hat7.out)
  rw [hlv.out, hnn.out] at hf3
  have hPf := Lib.hid (⟨rv, .slice vA7 (n + 1) vc7, pv, M, row, hrow.out, hf5⟩ : PS (w7.setCell ⟨R, 3, none⟩ (.slice vA7 (n + 1) vc7)) B E R { r with leaf := { r.leaf with lines := r.leaf.lines ++ [T] } })
  have hBf := Lib.hid (((hB6.alloc (by omega) _).trans hb7).setCell (p := ⟨R, 3, none⟩) hf1 (.slice vA7 (n + 1) vc7))
  clear hf5
  refine can_same hS8 (hK _ _ _ ?_)
  clear hK K
  refine wpBar_cons rfl ?_
  intro K hK
  go_simp
  refine can_same hS8 (hK _ _ _ ?_)
  clear hK K
  refine wpBar_cons rfl ?_
  intro K hK
  go_simp
  refine can_same hS8 (hK _ _ _ ?_)
  clear hK K
  refine wpBar_cons rfl ?_
  intro K hK
  go_simp
  refine can_same hS8 (hK _ _ _ ?_)
  clear hK K
  refine wpBar_bar rfl rfl ?_
  go_simp
  refine ⟨fun _ => True, trivial, wpT_fin ?_⟩
  go_wp2_with fail
  go_returns
  exact ⟨rfl, hPf.out, hBf.out⟩
end Go.Proofs.YtmmgfoepfapnkaaGreatDoor
