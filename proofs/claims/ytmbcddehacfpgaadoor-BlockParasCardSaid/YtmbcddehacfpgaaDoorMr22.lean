/- The program's reader of blocks: a document's lines. The program's own answers of chapter 7: a tree of blocks; places of fences. A document's tree is as trees are, whatever bytes it is of. A document's tree: no block has too many of its own. Plain mathematics. The program's places of fences. -/
import Derived.Test.YtmbcddehacfpgaaDoorMr20
import Derived.Test.YtmbcddehacfpgaaDoorMr04
import Derived.Test.YtmbcddehacfpgaaDoorMr21
import Derived.Test.YtmbcddehacfpgaaDoorMr02
import Derived.Test.YtmbcddehacfpgaaDoorMr08
namespace Go.Proofs.YtmbcddehacfpgaaDoor
open Go.RowKit
attribute [local go_sem] canOp readsAs readUpon

/-- a document's lines, as they are read: no more than 65536 bytes -/
def Pb.linesOf (l : List UInt8) : List (List UInt8) := (Ln.texts (l.take 65536) 0).map Ru.text
theorem pline_len {l : List UInt8} {k : Nat} : ∀ s ∈ Ln.texts l k, s.length ≤ l.length := by
  intro s hs
  unfold Ln.texts at hs
  obtain ⟨x, _, rfl⟩ := List.mem_map.1 hs
  unfold mid
  rw [List.length_take, List.length_drop]; omega
theorem plines_at {ts : List (List UInt8)} {k : Nat} (h : k < ts.length) (r : Pb.Rd) : Pb.lines ((ts.drop k).map Ru.text) k r = Pb.lines ((ts.drop (k + 1)).map Ru.text) (k + 1) (Pb.takeLine k (Ru.text ts[k]) r) := by
  rw [List.drop_eq_getElem_cons h, List.map_cons, Pb.lines]
theorem plines_end {ts : List (List UInt8)} {k : Nat} (h : ¬ k < ts.length) (r : Pb.Rd) : Pb.lines ((ts.drop k).map Ru.text) k r = r := by
  rw [List.drop_eq_nil_of_le (by omega)]; rfl
theorem Hp.low {K : Type} {w w' : World} {B g : Nat} {m : K → Option Part} (h : Hp w B m) (hg : w.grownBy w' (some g)) (hl : g < B) : Hp w' B m :=
  ⟨fun k a ha => Part.kept (h.holds k a ha) hg (by
    cases hb : a.block with
    | none => exact .inl rfl
    | some b => exact .inr fun e => by have := (Part.lt (h.holds k a ha) hb).1; cases e; omega), h.apart⟩
abbrev docArr : Array Value := #[.int .i64 0, .int .i64 0, .string ⟨#[]⟩, .string ⟨#[]⟩, .int .i64 0, .slice none 0 0, .int .u8 0, .int .i64 0, .int .u8 0]
abbrev rdArr (rv lv pv : Value) (l : Pb.Of) : Array Value := #[rv, .int .i64 (l.kind : Int), .int .i64 (l.line : Int), lv, .int .u8 (l.op.c.toNat : Int), .int .i64 (l.op.n : Int), .int .i64 (l.op.ind : Int), .string (bs l.op.info), .bool l.ended, pv]
abbrev rd0 (rv : Value) : Array Value := #[rv, .int .i64 0, .int .i64 0, .slice none 0 0, .int .u8 0, .int .i64 0, .int .i64 0, .string ⟨#[]⟩, .bool false, .slice none 0 0]
def docMC : MC := ⟨⟨0, 0, [], 0, 0, none⟩, .slice none 0 0, [], .slice none 0 0, []⟩
theorem start_pat (w : World) : PAt ((w.alloc (.cells docArr 57)).alloc (.cells (rd0 (.slice (some ⟨w.heap.size, 0, none⟩) 1 1)) 54)) w.heap.size (fun _ => none) (w.heap.size + 1) (.slice (some ⟨w.heap.size, 0, none⟩) 1 1) (.slice none 0 0) (.slice none 0 0) (fun _ => none) [docMC] Pb.noLeaf [] := by
  have H0 : Hp w w.heap.size (fun _ : PKey => (none : Option Part)) := ⟨fun _ _ h => (by cases h), fun _ _ _ _ _ h => (by cases h)⟩
  have H1 := H0.umore (k := .row) (.row 57 9 (.slice (some ⟨w.heap.size, 0, none⟩) 1 1) 1 docArr.toList) rfl (ext_alloc w (.cells docArr 57)) ⟨rfl, .inr ⟨w.heap.size, 1, docArr, rfl, Nat.le_refl _, heap_alloc_new w _, Nat.le_refl _, by unfold maxLen; omega, rfl, rfl⟩⟩ (fun g e => by cases e; exact Nat.le_refl _)
  have hz : (w.alloc (.cells docArr 57)).heap.size = w.heap.size + 1 := by simp
  have H2 := H1.umore (k := .rd) (.blk (w.heap.size + 1) (rd0 (.slice (some ⟨w.heap.size, 0, none⟩) 1 1)) 54) (upd_other _ _ (by simp)) (ext_alloc _ (.cells (rd0 (.slice (some ⟨w.heap.size, 0, none⟩) 1 1)) 54)) ⟨by omega, by
    have := heap_alloc_new (w.alloc (.cells docArr 57)) (.cells (rd0 (.slice (some ⟨w.heap.size, 0, none⟩) 1 1)) 54)
    rw [hz] at this; exact this⟩ (fun g e => by cases e; exact Nat.le_of_eq hz)
  have H3 := H2.umore (k := .lns) (.row 9 1 (.slice none 0 0) 0 []) ((upd_other _ _ (by simp)).trans (upd_other _ _ (by simp))) (Below.refl _ _) (World.ownsRow_nil _ _ _ _) (fun g e => by cases e)
  have H4 := H3.umore (k := .pls) (.row 39 8 (.slice none 0 0) 0 []) ((upd_other _ _ (by simp)).trans ((upd_other _ _ (by simp)).trans (upd_other _ _ (by simp)))) (Below.refl _ _) (World.ownsRow_nil _ _ _ _) (fun g e => by cases e)
  have H5 := H4.umore (k := .kid 0) (.row 31 6 (.slice none 0 0) 0 []) ((upd_other _ _ (by simp)).trans ((upd_other _ _ (by simp)).trans ((upd_other _ _ (by simp)).trans (upd_other _ _ (by simp))))) (Below.refl _ _) (World.ownsRow_nil _ _ _ _) (fun g e => by cases e)
  refine ⟨H5.same fun j => ?_, fun x hx => ?_, fun b a e => by cases e⟩
  · cases j with
    | kid i =>
      cases i with
      | zero => rfl
      | succ i => rfl
    | itm i =>
      cases i with
      | zero => rfl
      | succ i => rfl
    | _ => rfl
  · rw [List.mem_singleton.1 hx]
    exact ⟨TMs_nil, fun _ _ _ e => by cases e⟩
theorem start_sz : Pb.Sz 0 0 Pb.start := by
  refine ⟨by decide, by decide, fun c hc => ?_, fun c hc s ln is e => ?_, fun c hc e => ?_, by decide, fun s hs => (by cases hs), by decide, by decide⟩
  · rw [List.mem_singleton.1 hc]; decide
  · rw [List.mem_singleton.1 hc] at e; cases e
  · rw [List.mem_singleton.1 hc] at e; cases e
/-- ten cells are written -/
def ten (w : World) (g : Nat) (a0 a1 a2 a3 a4 a5 a6 a7 a8 a9 : Value) : World := ((((((((((w.setCell ⟨g, 0, none⟩ a0).setCell ⟨g, 1, none⟩ a1).setCell ⟨g, 2, none⟩ a2).setCell ⟨g, 3, none⟩ a3).setCell ⟨g, 4, none⟩ a4).setCell ⟨g, 5, none⟩ a5).setCell ⟨g, 6, none⟩ a6).setCell ⟨g, 7, none⟩ a7).setCell ⟨g, 8, none⟩ a8).setCell ⟨g, 9, none⟩ a9)
theorem ten_at {w : World} {g : Nat} {z0 z1 z2 z3 z4 z5 z6 z7 z8 z9 : Value} {t : TypeId} (h : w.heap[g]? = some (.cells #[z0, z1, z2, z3, z4, z5, z6, z7, z8, z9] t (0, 0))) (a0 a1 a2 a3 a4 a5 a6 a7 a8 a9 : Value) : (ten w g a0 a1 a2 a3 a4 a5 a6 a7 a8 a9).heap[g]? = some (.cells #[a0, a1, a2, a3, a4, a5, a6, a7, a8, a9] t (0, 0)) := by
  unfold ten
  have h1 : (w.setCell ⟨g, 0, none⟩ a0).heap[g]? = some (.cells #[a0, z1, z2, z3, z4, z5, z6, z7, z8, z9] t (0, 0)) := heap_setCell_same w g 0 _ t a0 h
  generalize hw1 : (w.setCell ⟨g, 0, none⟩ a0) = w1 at h1 ⊢
  have h2 : (w1.setCell ⟨g, 1, none⟩ a1).heap[g]? = some (.cells #[a0, a1, z2, z3, z4, z5, z6, z7, z8, z9] t (0, 0)) := heap_setCell_same w1 g 1 _ t a1 h1
  generalize hw2 : (w1.setCell ⟨g, 1, none⟩ a1) = w2 at h2 ⊢
  have h3 : (w2.setCell ⟨g, 2, none⟩ a2).heap[g]? = some (.cells #[a0, a1, a2, z3, z4, z5, z6, z7, z8, z9] t (0, 0)) := heap_setCell_same w2 g 2 _ t a2 h2
  generalize hw3 : (w2.setCell ⟨g, 2, none⟩ a2) = w3 at h3 ⊢
  have h4 : (w3.setCell ⟨g, 3, none⟩ a3).heap[g]? = some (.cells #[a0, a1, a2, a3, z4, z5, z6, z7, z8, z9] t (0, 0)) := heap_setCell_same w3 g 3 _ t a3 h3
  generalize hw4 : (w3.setCell ⟨g, 3, none⟩ a3) = w4 at h4 ⊢
  have h5 : (w4.setCell ⟨g, 4, none⟩ a4).heap[g]? = some (.cells #[a0, a1, a2, a3, a4, z5, z6, z7, z8, z9] t (0, 0)) := heap_setCell_same w4 g 4 _ t a4 h4
  generalize hw5 : (w4.setCell ⟨g, 4, none⟩ a4) = w5 at h5 ⊢
  have h6 : (w5.setCell ⟨g, 5, none⟩ a5).heap[g]? = some (.cells #[a0, a1, a2, a3, a4, a5, z6, z7, z8, z9] t (0, 0)) := heap_setCell_same w5 g 5 _ t a5 h5
  generalize hw6 : (w5.setCell ⟨g, 5, none⟩ a5) = w6 at h6 ⊢
  have h7 : (w6.setCell ⟨g, 6, none⟩ a6).heap[g]? = some (.cells #[a0, a1, a2, a3, a4, a5, a6, z7, z8, z9] t (0, 0)) := heap_setCell_same w6 g 6 _ t a6 h6
  generalize hw7 : (w6.setCell ⟨g, 6, none⟩ a6) = w7 at h7 ⊢
  have h8 : (w7.setCell ⟨g, 7, none⟩ a7).heap[g]? = some (.cells #[a0, a1, a2, a3, a4, a5, a6, a7, z8, z9] t (0, 0)) := heap_setCell_same w7 g 7 _ t a7 h7
  generalize hw8 : (w7.setCell ⟨g, 7, none⟩ a7) = w8 at h8 ⊢
  have h9 : (w8.setCell ⟨g, 8, none⟩ a8).heap[g]? = some (.cells #[a0, a1, a2, a3, a4, a5, a6, a7, a8, z9] t (0, 0)) := heap_setCell_same w8 g 8 _ t a8 h8
  generalize hw9 : (w8.setCell ⟨g, 8, none⟩ a8) = w9 at h9 ⊢
  have h10 : (w9.setCell ⟨g, 9, none⟩ a9).heap[g]? = some (.cells #[a0, a1, a2, a3, a4, a5, a6, a7, a8, a9] t (0, 0)) := heap_setCell_same w9 g 9 _ t a9 h9
  exact h10
theorem ten_below {B : Nat} {w0 w : World} (hb : Below B w0 w) {g : Nat} (hg : B ≤ g) (a0 a1 a2 a3 a4 a5 a6 a7 a8 a9 : Value) : Below B w0 (ten w g a0 a1 a2 a3 a4 a5 a6 a7 a8 a9) := by
  unfold ten
  exact ((((((((((hb.setCell (p := ⟨g, 0, none⟩) hg a0).setCell (p := ⟨g, 1, none⟩) hg a1).setCell (p := ⟨g, 2, none⟩) hg a2).setCell (p := ⟨g, 3, none⟩) hg a3).setCell (p := ⟨g, 4, none⟩) hg a4).setCell (p := ⟨g, 5, none⟩) hg a5).setCell (p := ⟨g, 6, none⟩) hg a6).setCell (p := ⟨g, 7, none⟩) hg a7).setCell (p := ⟨g, 8, none⟩) hg a8).setCell (p := ⟨g, 9, none⟩) hg a9)
theorem ten_grown (w : World) (g : Nat) (a0 a1 a2 a3 a4 a5 a6 a7 a8 a9 : Value) : w.grownBy (ten w g a0 a1 a2 a3 a4 a5 a6 a7 a8 a9) (some g) := by
  unfold ten
  exact ((((((((((grown_set w ⟨g, 0, none⟩ a0).trans (grown_set _ ⟨g, 1, none⟩ a1)).trans (grown_set _ ⟨g, 2, none⟩ a2)).trans (grown_set _ ⟨g, 3, none⟩ a3)).trans (grown_set _ ⟨g, 4, none⟩ a4)).trans (grown_set _ ⟨g, 5, none⟩ a5)).trans (grown_set _ ⟨g, 6, none⟩ a6)).trans (grown_set _ ⟨g, 7, none⟩ a7)).trans (grown_set _ ⟨g, 8, none⟩ a8)).trans (grown_set _ ⟨g, 9, none⟩ a9))

set_option maxHeartbeats 4000000 in
set_option maxRecDepth 100000 in
theorem pread (l : List UInt8) (A : Option Addr) (c : Nat) (w : World) (hR : Row w w.heap.size 1 A l.length (bcells l)) (hlc : l.length ≤ c) (hl : l.length ≤ 9223372036854775807) :
    Calls Tryd.prog 14 #[.slice A l.length c] w fun e w' => ∃ R rv lv pv M row, e = .returned (.agg (rdArr rv lv pv (Pb.read (Pb.linesOf l)).leaf)) ∧ row.map (·.c) = (Pb.read (Pb.linesOf l)).row ∧ PAt w' (w.heap.size + 1) (fun _ => none) R rv lv pv M row (Pb.read (Pb.linesOf l)).leaf (Pb.read (Pb.linesOf l)).places ∧ Pb.Sz 800000000 0 (Pb.read (Pb.linesOf l)) ∧ Pb.Doc (Pb.read (Pb.linesOf l)).row ∧ Below w.heap.size w w' := by
  obtain ⟨m, hm⟩ : ∃ m, (l.take 65536).length = m := ⟨_, rfl⟩
  have hml : m ≤ 65536 ∧ m ≤ l.length := by rw [← hm, List.length_take]; omega
  have hmin : (if (65536 : Int) < (l.length : Int) then (65536 : Int) else (l.length : Int)) = (m : Int) ∧ min (l.length : Int) 65536 = (m : Int) := by
    rw [List.length_take] at hm
    refine ⟨?_, by omega⟩
    split <;> omega
  have hR2 : Row w w.heap.size 1 A m (bcells (l.take 65536)) := by
    have := hR.take hml.2
    rw [Nat.mul_one] at this
    have e : (bcells l).take m = bcells (l.take 65536) := by
      unfold bcells
      rw [← List.map_take]
      congr 1
      rw [← hm, List.length_take]
      rcases Nat.le_total 65536 l.length with h | h
      · rw [Nat.min_eq_left h]
      · rw [Nat.min_eq_right h, List.take_of_length_le (Nat.le_refl _), List.take_of_length_le h]
    rwa [e] at this
  have htx := fun w' h => texts_any (l.take 65536) A c w' h (by rw [hm]; omega) (by rw [hm]; omega)
  have hlo : Pb.linesOf l = (Ln.texts (l.take 65536) 0).map Ru.text := rfl
  have hll := @pline_len (l.take 65536) 0
  have htn := Ln.texts_len (l.take 65536) 0
  rw [hm] at htx hll htn
  obtain ⟨ts, hts⟩ : ∃ ts, Ln.texts (l.take 65536) 0 = ts := ⟨_, rfl⟩
  rw [hts] at htx hlo hll htn
  rw [hlo]
  have hcs : (l.length : Int) ≤ (c : Int) := by omega
  have hmc : (m : Int) ≤ (c : Int) := by omega
  obtain ⟨hmin1, hmin2⟩ := hmin
  obtain ⟨G, hG⟩ : ∃ G, Pb.read (ts.map Ru.text) = G := ⟨_, rfl⟩
  rw [hG]
  obtain ⟨gl, hgl0⟩ : ∃ gl, G.leaf = gl := ⟨_, rfl⟩
  rw [hgl0]
  replace hgl0 := Lib.hid hgl0
  obtain ⟨G0, hG0⟩ : ∃ G0, Pb.lines ((ts.drop 0).map Ru.text) 0 Pb.start = G0 := ⟨_, rfl⟩
  have hGG : Pb.closeTo 1 G0 = G := by rw [← hG0, ← hG]; rfl
  have hs0 := ext_alloc w (.cells (rd0 (.slice none 0 0)) 54)
  have hn0 := heap_alloc_new w (.cells (rd0 (.slice none 0 0)) 54)
  have hz0 : (w.alloc (.cells (rd0 (.slice none 0 0)) 54)).heap.size = w.heap.size + 1 := by simp
  have hP0 := start_pat (w.alloc (.cells (rd0 (.slice none 0 0)) 54))
  have hb0 : Below (w.heap.size + 1) (w.alloc (.cells (rd0 (.slice none 0 0)) 54)) _ := (((Below.refl _ _).alloc (by rw [hz0]; exact Nat.le_refl _) (.cells docArr 57)).alloc (by simp) (.cells (rd0 (.slice (some ⟨(w.alloc (.cells (rd0 (.slice none 0 0)) 54)).heap.size, 0, none⟩) 1 1)) 54))
  rw [hz0] at hP0 hb0
  obtain ⟨wa, hwa⟩ : ∃ wa, w.alloc (.cells (rd0 (.slice none 0 0)) 54) = wa := ⟨_, rfl⟩
  rw [hwa] at hP0 hb0 hs0 hn0 hz0
  obtain ⟨w0, hw0⟩ : ∃ w0, (wa.alloc (.cells docArr 57)).alloc (.cells (rd0 (.slice (some ⟨w.heap.size + 1, 0, none⟩) 1 1)) 54) = w0 := ⟨_, rfl⟩
  rw [hw0] at hP0 hb0
  have hRw : Row w0 w0.heap.size 1 A m (bcells (l.take 65536)) := hR2.ext (hs0.trans (hb0.mono (by omega)))
  have hPS0 : PS w0 (w.heap.size + 1) (fun _ => none) (w.heap.size + 1 + 1) Pb.start := ⟨_, _, _, _, [docMC], rfl, hP0⟩
  replace hR := Lib.hid hR
  replace hwa := Lib.hid hwa
  replace hw0 := Lib.hid hw0
  replace hPS0 := Lib.hid hPS0
  replace hG := Lib.hid hG
  replace hG0 := Lib.hid hG0
  replace hGG := Lib.hid hGG
  clear hlo hP0 hR2
  go_enter Tryd.func14, Tryd.ntmps14
  go_wp2_with fail
  have hwa' := hwa.out
  have hw0' := hw0.out
  simp only [rd0, docArr] at hwa' hw0'
  rw [hwa', hw0']
  refine (htx w0 hRw).mono ?_
  rintro e w1 ⟨v, rfl, hown, hb1⟩
  obtain ⟨rv0, lv0, pv0, M0, row0, hrow0, hA0⟩ := hPS0.out
  have hz0b : w.heap.size + 1 ≤ w0.heap.size := by have := hb0.size; omega
  have hownB : w1.ownsRow (w.heap.size + 1) 9 1 v ts.length (scells ts) := ⟨hown.1, hown.2.imp id (fun ⟨g, cc, cur, e1, e2, e3⟩ => ⟨g, cc, cur, e1, by omega, e3⟩)⟩
  have hA1 := hA0.ext_in (a := .row 9 1 v ts.length (scells ts)) hb1 hownB (fun g hg => (World.ownsRow.lt hown g hg).1)
  obtain ⟨B, hBB⟩ : ∃ B, w.heap.size + 1 = B := ⟨_, rfl⟩
  obtain ⟨E, hE⟩ : ∃ E, shiftE (.row 9 1 v ts.length (scells ts)) (fun _ => none) = E := ⟨_, rfl⟩
  have hE0 : E 0 = some (.row 9 1 v ts.length (scells ts)) := by rw [← hE]; rfl
  rw [hBB] at hA1 hz0b hb0 ⊢
  rw [hE] at hA1
  have hB1 : Below B wa w1 := hb0.trans (hb1.mono hz0b)
  obtain ⟨vA, vc, rfl, hvc⟩ := own_shape hown
  obtain ⟨R, hRR⟩ : ∃ R, B + 1 = R := ⟨_, rfl⟩
  rw [hRR] at hA1 ⊢
  have hP1 := Lib.hid (⟨rv0, lv0, pv0, M0, row0, hrow0, hA1⟩ : PS w1 B E R Pb.start)
  replace hB1 := Lib.hid hB1
  replace hE0 := Lib.hid hE0
  replace hE := Lib.hid hE
  replace hBB := Lib.hid hBB
  replace hRR := Lib.hid hRR
  have hts5 : ts.length ≤ 65536 := by omega
  clear hown hb1 hb0 hA1 hA0 hrow0 hownB hwa' hw0' htx hz0b
  go_wp2_with fail
  go_loopw [17] (fun u wr => ∃ (k : Nat) (r1 : Pb.Rd), k ≤ ts.length ∧ u = .int .i64 (k : Int) ∧ Hid (PS wr B E R r1) ∧ Hid (Pb.Sz (2100 * k) k r1) ∧ Hid (Pb.Doc r1.row) ∧ Hid (Pb.lines ((ts.drop k).map Ru.text) k r1 = G0) ∧ Hid (Below B wa wr)) (fun u _ => ts.length - (intOf u).toNat)
  case atStart => exact ⟨0, Pb.start, by omega, rfl, hP1, Lib.hid start_sz, Lib.hid (by unfold Pb.Doc; rfl), hG0, hB1⟩
  case round =>
    obtain ⟨k, r1, hk, rfl, hP, hz, hd, hgl, hb⟩ := hrel
    rcases Nat.lt_or_eq_of_le hk with hlt | hke
    · obtain ⟨rv, lv, pv, M, row, hrow, hA⟩ := hP.out
      have hBr : B ≤ wr.heap.size := by have := rd_facts hA; omega
      have hrw := hA.hp.own (k := .ext 0) hE0.out
      obtain ⟨g, gc, cur, hv, _, _, hgw, _⟩ := own_block hrw (by omega)
      cases hv
      obtain ⟨s, hs⟩ : ∃ s, ts[k] = s := ⟨_, rfl⟩
      have hx := own_cell (j := k) (u := .string (bs s)) hrw (by unfold scells; rw [List.getElem?_map, List.getElem?_eq_getElem hlt, hs]; rfl)
      have hsl := hll s (by rw [← hs]; exact List.getElem_mem hlt)
      have hst := plines_at hlt r1
      rw [hs, hgl.out] at hst
      have hrb := run_bytes s
      have htl := Ru.text_len s
      have hbb := below_bytes wr (bs s)
      have htt := text_any s (some ⟨wr.heap.size, 0, none⟩) (grownCap wr s.length 0 5) (Lib.bytesWorld wr 5 (bs s)) (row_bytes _ s) (by omega)
      have hln := fun wz hz' => ptakeLine wz B E R r1 hz' hz.out hd.out (by omega) (by omega) k (by omega) (Ru.text s) (by omega)
      replace hs := Lib.hid hs
      replace hst := Lib.hid hst
      replace hrw := Lib.hid hrw
      replace hA := Lib.hid hA
      replace hln := Lib.hid hln
      replace hbb := Lib.hid hbb
      replace hrow := Lib.hid hrow
      have hgl1 := (Array.getElem?_eq_some_iff.1 hgw).1
      clear hgw
      have hk1 : (k : Int) < (ts.length : Int) := by omega
      have hk0 : (0 : Int) ≤ (k : Int) := by omega
      have hcv := hrb
      clear hrb
      go_wp2_with fail
      refine htt.mono ?_
      rintro e w3 ⟨rfl, hb3⟩
      have hb23 := ext_trans hbb.out hb3
      have hP3 := Lib.hid (⟨rv, lv, pv, M, row, hrow.out, PAt.mk (hA.out.hp.ext hb23) hA.out.good hA.out.old⟩ : PS w3 B E R r1)
      have hB3 := Lib.hid (hb.out.trans (hb23.mono hBr))
      clear hcv htt hb23 hb3
      go_wp2_with fail
      refine (hln.out _ hP3.out).mono ?_
      rintro e w4 ⟨rfl, ⟨hP4, hz4, hd4⟩, hb4⟩
      replace hP4 := Lib.hid hP4
      replace hz4 := Lib.hid hz4
      replace hd4 := Lib.hid hd4
      replace hb4 := Lib.hid (hB3.out.trans hb4)
      go_wp2_with fail
      go_roundw
      case rel => exact ⟨k + 1, _, by omega, by go_num, hP4, Lib.hid (by have := hz4.out; rw [show 2100 * (k + 1) = 2100 * k + 2100 from by omega]; exact this), hd4, Lib.hid hst.out.symm, hb4⟩
      case measure => simp [intOf]; omega
    · have hG1 := hgl.out
      rw [plines_end (by omega)] at hG1
      have hto := fun wz hz' => pcloseTo wz B E R r1 hz' hz.out (by omega) (by omega) 1 (by omega)
      have hres : Pb.Sz 800000000 0 (Pb.closeTo 1 r1) ∧ Pb.Doc (Pb.closeTo 1 r1).row := ⟨(closeTo_sz hz.out 1 0).mono (by omega) (Nat.le_refl _), closeTo_doc (Nat.le_refl _) hz.out.pos hd.out⟩
      rw [show Pb.closeTo 1 r1 = G from by rw [hG1]; exact hGG.out] at hto hres
      replace hres := Lib.hid hres
      replace hto := Lib.hid hto
      replace hG1 := Lib.hid hG1
      have hkn : ¬ (k : Int) < (ts.length : Int) := by omega
      clear hke
      go_wp2_with fail
      refine (hto.out _ hP.out).mono ?_
      rintro e w5 ⟨rfl, hP5, hb5⟩
      obtain ⟨rv, lv, pv, M, row, hrow, hA⟩ := hP5
      rw [← hE.out] at hA
      have hA5 := hA.ext_out
      obtain ⟨rA, rc, hrv, _⟩ := own_shape (hA5.hp.own (k := .row) rfl)
      obtain ⟨lA, lc, hlv, _⟩ := own_shape (hA5.hp.own (k := .lns) rfl)
      obtain ⟨pA, pc, hpv, _⟩ := own_shape (hA5.hp.own (k := .pls) rfl)
      obtain ⟨rn, hrn⟩ : ∃ rn, row.length = rn := ⟨_, rfl⟩
      obtain ⟨ln, hln⟩ : ∃ ln, gl.lines.length = ln := ⟨_, rfl⟩
      obtain ⟨pn, hpn⟩ : ∃ pn, G.places.length = pn := ⟨_, rfl⟩
      rw [hgl0.out] at hA5 hlv
      rw [hrn] at hrv
      rw [hln] at hlv
      rw [hpn] at hpv
      obtain ⟨hR1, hR2, _, d0, d1, d2, d3, d4, d5, d6, d7, d8, d9⟩ := rd_facts hA5
      rw [hrv] at d0
      rw [hlv] at d3
      rw [hpv] at d9
      have hbw5 := hb.out.trans hb5
      have hn5 := (hbw5.block w.heap.size (by have := hBB.out; omega)).trans hn0
      have z0 := cell_of hn5 (j := 0) rfl
      have z1 := cell_of hn5 (j := 1) rfl
      have z2 := cell_of hn5 (j := 2) rfl
      have z3 := cell_of hn5 (j := 3) rfl
      have z4 := cell_of hn5 (j := 4) rfl
      have z5 := cell_of hn5 (j := 5) rfl
      have z6 := cell_of hn5 (j := 6) rfl
      have z7 := cell_of hn5 (j := 7) rfl
      have z8 := cell_of hn5 (j := 8) rfl
      have z9 := cell_of hn5 (j := 9) rfl
      have zf := blk_free hn5
      have hlow := hA5.hp.low (ten_grown w5 w.heap.size (.slice rA rn rc) (.int .i64 (gl.kind : Int)) (.int .i64 (gl.line : Int)) (.slice lA ln lc) (.int .u8 (gl.op.c.toNat : Int)) (.int .i64 (gl.op.n : Int)) (.int .i64 (gl.op.ind : Int)) (.string (bs gl.op.info)) (.bool gl.ended) (.slice pA pn pc)) (by have := hBB.out; omega)
      have hW := ten_at hn5 (.slice rA rn rc) (.int .i64 (gl.kind : Int)) (.int .i64 (gl.line : Int)) (.slice lA ln lc) (.int .u8 (gl.op.c.toNat : Int)) (.int .i64 (gl.op.n : Int)) (.int .i64 (gl.op.ind : Int)) (.string (bs gl.op.info)) (.bool gl.ended) (.slice pA pn pc)
      have hBw5 : Below w.heap.size w w5 := hs0.trans (hbw5.mono (by have := hBB.out; omega))
      have hBW : Below w.heap.size w (ten w5 w.heap.size (.slice rA rn rc) (.int .i64 (gl.kind : Int)) (.int .i64 (gl.line : Int)) (.slice lA ln lc) (.int .u8 (gl.op.c.toNat : Int)) (.int .i64 (gl.op.n : Int)) (.int .i64 (gl.op.ind : Int)) (.string (bs gl.op.info)) (.bool gl.ended) (.slice pA pn pc)) := ten_below hBw5 (Nat.le_refl _) _ _ _ _ _ _ _ _ _ _
      have hfinA := Lib.hid (PAt.mk hlow hA5.good hA5.old)
      replace hA5 := Lib.hid hA5
      replace hA := Lib.hid hA
      replace hn5 := Lib.hid hn5
      replace hlow := Lib.hid hlow
      replace hBw5 := Lib.hid hBw5
      replace hbw5 := Lib.hid hbw5
      replace hrow := Lib.hid hrow
      replace hrv := Lib.hid hrv
      replace hlv := Lib.hid hlv
      replace hpv := Lib.hid hpv
      replace hn0 := Lib.hid hn0
      clear hrn hln hpn
      go_wp2_with fail
      change bodyPost _ _ _ _ _ (ten w5 w.heap.size (.slice rA rn rc) (.int .i64 (gl.kind : Int)) (.int .i64 (gl.line : Int)) (.slice lA ln lc) (.int .u8 (gl.op.c.toNat : Int)) (.int .i64 (gl.op.n : Int)) (.int .i64 (gl.op.ind : Int)) (.string (bs gl.op.info)) (.bool gl.ended) (.slice pA pn pc))
      generalize ten w5 w.heap.size (.slice rA rn rc) (.int .i64 (gl.kind : Int)) (.int .i64 (gl.line : Int)) (.slice lA ln lc) (.int .u8 (gl.op.c.toNat : Int)) (.int .i64 (gl.op.n : Int)) (.int .i64 (gl.op.ind : Int)) (.string (bs gl.op.info)) (.bool gl.ended) (.slice pA pn pc) = wz at hW hBW hfinA ⊢
      have y0 := cell_of hW (j := 0) rfl
      have y1 := cell_of hW (j := 1) rfl
      have y2 := cell_of hW (j := 2) rfl
      have y3 := cell_of hW (j := 3) rfl
      have y4 := cell_of hW (j := 4) rfl
      have y5 := cell_of hW (j := 5) rfl
      have y6 := cell_of hW (j := 6) rfl
      have y7 := cell_of hW (j := 7) rfl
      have y8 := cell_of hW (j := 8) rfl
      have y9 := cell_of hW (j := 9) rfl
      clear z0 z1 z2 z3 z4 z5 z6 z7 z8 z9 zf d0 d1 d2 d3 d4 d5 d6 d7 d8 d9
      refine bodyPost_ret (v := .agg #[.slice rA rn rc, .int .i64 (gl.kind : Int), .int .i64 (gl.line : Int), .slice lA ln lc, .int .u8 (gl.op.c.toNat : Int), .int .i64 (gl.op.n : Int), .int .i64 (gl.op.ind : Int), .string (bs gl.op.info), .bool gl.ended, .slice pA pn pc]) (by rw [results_cell1 rfl]; go_simp) rfl ?_
      have hfin := hfinA.out
      rw [hBB.out]
      exact ⟨R, rv, lv, pv, M, row, by rw [hrv.out, hlv.out, hpv.out], hrow.out, hfin, hres.out.1, hres.out.2, hBW⟩
end Go.Proofs.YtmbcddehacfpgaaDoor

namespace Go.Proofs.YtmbcddehacfpgaaDoor
open Go.RowKit
attribute [local go_sem] canOp readsAs readUpon

theorem final_tree {w : World} {B R : Nat} {E : Nat → Option Part} {rv lv pv : Value} {M : Mm} {x : MC} {l : Pb.Of} {ps : List Bk.Pl} (h : PAt w B E R rv lv pv M [x] l ps) :
    (∃ A n k, x.kv = .slice A n k) ∧ TC w (fun b => B ≤ b ∧ b < w.heap.size) x.c.tree [.int .i64 (x.c.kind : Int), .int .i64 0, .string ⟨#[]⟩, .string ⟨#[]⟩, .int .i64 (x.c.line : Int), x.kv] := by
  obtain ⟨M1, h1, h2, ⟨cs', h3, h3'⟩, h4⟩ := retire_itm (o := []) (x := x) (M := M) h.hp rfl (fun b => rfl) h.old (h.good x (by simp))
  have hk : gone (pparts E R rv lv pv M [x] l ps) M1 (.itm ([] : List MC).length) (.kid 0) = some (.row 31 6 x.kv x.c.all.length (x.css.flatten ++ lstCells x.lv x.c.lst)) := by
    rw [gone_ne (fun b e => by cases e) (by simp)]; rfl
  obtain ⟨kA, kc, hkv, hkc⟩ := own_shape (h4.own hk)
  rw [hkv, ← h3'] at hk
  obtain ⟨M2, g1, g2, g3, g4⟩ := retire (M := M1) h4 hk (fun b e => by cases e) (fun b => rfl) h2
  refine ⟨⟨kA, _, kc, hkv⟩, TM_TC (M := M2) (fun b cur t e => ?_) ?_⟩
  · have := g4.holds (.old b) _ e
    obtain ⟨f1, f2⟩ := this
    exact ⟨f2, f1, (Array.getElem?_eq_some_iff.1 f2).1⟩
  · rw [hkv]
    unfold Pb.Cn.tree TM
    exact ⟨kA, kc, cs', rfl, hkc, g3, TMs_mono g1 h3⟩
theorem one_row {row : List MC} {ls : List (List UInt8)} (h : row.map (·.c) = (Pb.read ls).row) (hl : (Pb.read ls).row.length = 1) : ∃ x, row = [x] ∧ x.c.tree = Pb.tree ls := by
  cases row with
  | nil => rw [← h] at hl; simp at hl
  | cons x t =>
    cases t with
    | cons y u => rw [← h] at hl; simp at hl
    | nil =>
      refine ⟨x, rfl, ?_⟩
      unfold Pb.tree
      rw [← h]; rfl
theorem lines_len : ∀ (ls : List (List UInt8)) (i : Nat) (r : Pb.Rd), Pb.Doc r.row → Pb.Doc (Pb.lines ls i r).row
  | [], _, _, h => h
  | s :: t, i, r, h => by
    refine lines_len t (i + 1) _ ?_
    unfold Pb.takeLine
    split
    · exact fenceLine_doc h
    · have hp := take_pos h s
      have hd := begin_doc i (41 - (Pb.take r.row.reverse s).1) (Pb.take r.row.reverse s).1 r (Pb.take r.row.reverse s).2 hp h
      have hk : ∀ (m k : Nat) (r : Pb.Rd) (s : List UInt8), 1 ≤ k → 1 ≤ (Pb.begin i m k r s).2.1 := by
        intro m
        induction m with
        | zero => intro k r s hk; exact hk
        | succ m ih =>
          intro k r s hk
          rw [Pb.begin]
          cases Bk.opener s with
          | none => exact hk
          | some oq => exact ih _ _ _ (by omega)
      refine leafLine_doc (hk _ _ _ _ hp) ?_ hd
      have := doc_ne hd
      exact List.length_pos_iff.2 this
theorem read_one (ls : List (List UInt8)) : (Pb.read ls).row.length = 1 := by
  have hd := lines_len ls 0 Pb.start (by unfold Pb.Doc; rfl)
  exact closeTo_len (Nat.le_refl _) (List.length_pos_iff.2 (doc_ne hd))

set_option maxHeartbeats 4000000 in
set_option maxRecDepth 100000 in
theorem pparse (l : List UInt8) (A : Option Addr) (c : Nat) (w : World) (hR : Row w w.heap.size 1 A l.length (bcells l)) (hlc : l.length ≤ c) (hl : l.length ≤ 9223372036854775807) :
    Calls Tryd.prog 7 #[.slice A l.length c] w fun e w' => ∃ cs, e = .returned (.agg cs.toArray) ∧ TC w' (fun b => w.heap.size ≤ b ∧ b < w'.heap.size) (Pb.tree (Pb.linesOf l)) cs ∧ Below w.heap.size w w' := by
  have hrd := fun w' h => pread l A c w' h hlc hl
  obtain ⟨T, hT⟩ : ∃ T, Pb.tree (Pb.linesOf l) = T := ⟨_, rfl⟩
  rw [hT]
  have hz0 : (w.alloc (.cells #[.int .i64 0, .int .i64 0, .string ⟨#[]⟩, .string ⟨#[]⟩, .int .i64 0, .slice none 0 0] 31)).heap.size = w.heap.size + 1 := by simp
  have hn0 := heap_alloc_new w (.cells #[.int .i64 0, .int .i64 0, .string ⟨#[]⟩, .string ⟨#[]⟩, .int .i64 0, .slice none 0 0] 31)
  have hb0 := ext_alloc w (.cells #[.int .i64 0, .int .i64 0, .string ⟨#[]⟩, .string ⟨#[]⟩, .int .i64 0, .slice none 0 0] 31)
  replace hR := Lib.hid hR
  obtain ⟨q, hq⟩ : ∃ q, w.heap.size = q := ⟨_, rfl⟩
  go_enter Tryd.func7, Tryd.ntmps7
  go_wp2_with fail
  generalize (w.alloc (.cells #[.int .i64 0, .int .i64 0, .string ⟨#[]⟩, .string ⟨#[]⟩, .int .i64 0, .slice none 0 0] 31)) = w0 at hz0 hn0 hb0 ⊢
  rw [hq] at hz0 hn0
  refine (hrd w0 (hR.out.ext hb0)).mono ?_
  rintro e w1 ⟨R, rv, lv, pv, M, row, rfl, hrow, hA, _, _, hb1⟩
  obtain ⟨x, rfl, hxt⟩ := one_row hrow (read_one _)
  rw [hT] at hxt
  obtain ⟨⟨kA, kn, kk, hkv⟩, htree⟩ := final_tree hA
  rw [hxt, hkv] at htree
  obtain ⟨g, gc, hrv, _, _, hgB, hgw, hgf, hgc⟩ := row_facts hA
  obtain ⟨lA, lc, hlv, _⟩ := own_shape (hA.hp.own (k := .lns) rfl)
  obtain ⟨pA, pc, hpv, _⟩ := own_shape (hA.hp.own (k := .pls) rfl)
  obtain ⟨gl, hgl⟩ : ∃ gl, (Pb.read (Pb.linesOf l)).leaf = gl := ⟨_, rfl⟩
  rw [hgl] at hlv ⊢
  obtain ⟨ln, hln⟩ : ∃ ln, gl.lines.length = ln := ⟨_, rfl⟩
  obtain ⟨pn, hpn⟩ : ∃ pn, (Pb.read (Pb.linesOf l)).places.length = pn := ⟨_, rfl⟩
  rw [hln] at hlv
  rw [hpn] at hpv
  rw [hrv, hlv, hpv]
  have k0 := hgc 0 _ rfl
  have k1 := hgc 1 _ rfl
  have k2 := hgc 2 _ rfl
  have k3 := hgc 3 _ rfl
  have k4 := hgc 4 _ rfl
  have k5 := hgc 5 _ rfl
  rw [hkv] at k5
  simp only [List.length_nil, Nat.zero_mul, Nat.zero_add] at k0 k1 k2 k3 k4 k5
  have hz1 := hb1.size
  have hqq := hq
  obtain ⟨xk, hxk⟩ : ∃ xk, x.c.kind = xk := ⟨_, rfl⟩
  obtain ⟨xl, hxl⟩ : ∃ xl, x.c.line = xl := ⟨_, rfl⟩
  rw [hxk] at k0 htree
  rw [hxl] at k4 htree
  have hnew := ext_alloc w1 (.cells (rdArr (.slice (some ⟨g, 0, none⟩) 1 gc) (.slice lA ln lc) (.slice pA pn pc) gl) 54)
  have hc0 := cell_of (heap_alloc_new w1 (.cells (rdArr (.slice (some ⟨g, 0, none⟩) 1 gc) (.slice lA ln lc) (.slice pA pn pc) gl) 54)) (j := 0) rfl
  have hz2 : (w1.alloc (.cells (rdArr (.slice (some ⟨g, 0, none⟩) 1 gc) (.slice lA ln lc) (.slice pA pn pc) gl) 54)).heap.size = w1.heap.size + 1 := by simp
  go_upto_region 2 with fail
  generalize w1.alloc (.cells (rdArr (.slice (some ⟨g, 0, none⟩) 1 gc) (.slice lA ln lc) (.slice pA pn pc) gl) 54) = w2 at hnew hc0 hz2 ⊢
  have hn2 := (hnew.block q (by omega)).trans ((hb1.block q (by omega)).trans hn0)
  have kq := fun j => hnew.cell (p := ⟨g, j, none⟩) hgw
  rw [← kq] at k0 k1 k2 k3 k4 k5
  have hT2 : TC w2 (fun b => q + 1 ≤ b ∧ b < w2.heap.size) T [.int .i64 (xk : Int), .int .i64 0, .string ⟨#[]⟩, .string ⟨#[]⟩, .int .i64 (xl : Int), .slice kA kn kk] := TC_frame (fun b hb => hnew.block b hb.2) (fun b hb => ⟨by have := hb.1; omega, by have := hb.2; omega⟩) htree
  have hb2 : Below w.heap.size w w2 := hb0.trans ((ext_trans hb1 hnew).mono (by omega))
  have z0 := cell_of hn2 (j := 0) rfl
  have z1 := cell_of hn2 (j := 1) rfl
  have z2 := cell_of hn2 (j := 2) rfl
  have z3 := cell_of hn2 (j := 3) rfl
  have z4 := cell_of hn2 (j := 4) rfl
  have z5 := cell_of hn2 (j := 5) rfl
  have zf := blk_free hn2
  have hW := wrote_at hn2 (.int .i64 (xk : Int)) (.int .i64 0) (.string ⟨#[]⟩) (.string ⟨#[]⟩) (.int .i64 (xl : Int)) (.slice kA kn kk)
  have hBq : ∀ q', w.heap.size = q' → Below w.heap.size w (wrote w2 q' (.int .i64 (xk : Int)) (.int .i64 0) (.string ⟨#[]⟩) (.string ⟨#[]⟩) (.int .i64 (xl : Int)) (.slice kA kn kk)) := fun q' e => by subst e; exact wrote_below hb2 _ _ _ _ _ _
  have hBW := hBq q hq
  have hTW : TC (wrote w2 q (.int .i64 (xk : Int)) (.int .i64 0) (.string ⟨#[]⟩) (.string ⟨#[]⟩) (.int .i64 (xl : Int)) (.slice kA kn kk)) (fun b => q ≤ b ∧ b < (wrote w2 q (.int .i64 (xk : Int)) (.int .i64 0) (.string ⟨#[]⟩) (.string ⟨#[]⟩) (.int .i64 (xl : Int)) (.slice kA kn kk)).heap.size) T [.int .i64 (xk : Int), .int .i64 0, .string ⟨#[]⟩, .string ⟨#[]⟩, .int .i64 (xl : Int), .slice kA kn kk] := TC_frame (fun b hb => wrote_block w2 (by have := hb.1; omega) _ _ _ _ _ _) (fun b hb => ⟨by have := hb.1; omega, by rw [wrote_size]; exact hb.2⟩) hT2
  replace hA := Lib.hid hA
  replace htree := Lib.hid htree
  replace hT2 := Lib.hid hT2
  replace hn2 := Lib.hid hn2
  replace hrow := Lib.hid hrow
  replace hW := Lib.hid hW
  replace hBW := Lib.hid hBW
  replace hTW := Lib.hid hTW
  replace hq := Lib.hid hq
  clear hgc hgf hrd hxt hkv hrv hlv hpv hn0 hln hpn hgl hT hBq kq hqq hb2
  go_wp2_with fail
  change bodyPost _ _ _ _ _ (wrote w2 q (.int .i64 (xk : Int)) (.int .i64 0) (.string ⟨#[]⟩) (.string ⟨#[]⟩) (.int .i64 (xl : Int)) (.slice kA kn kk))
  generalize wrote w2 q (.int .i64 (xk : Int)) (.int .i64 0) (.string ⟨#[]⟩) (.string ⟨#[]⟩) (.int .i64 (xl : Int)) (.slice kA kn kk) = wz at hW hBW hTW ⊢
  have y0 := cell_of hW.out (j := 0) rfl
  have y1 := cell_of hW.out (j := 1) rfl
  have y2 := cell_of hW.out (j := 2) rfl
  have y3 := cell_of hW.out (j := 3) rfl
  have y4 := cell_of hW.out (j := 4) rfl
  have y5 := cell_of hW.out (j := 5) rfl
  clear z0 z1 z2 z3 z4 z5 zf k0 k1 k2 k3 k4 k5 hc0
  rw [← hq.out] at hTW
  exact bodyPost_ret (v := .agg #[.int .i64 (xk : Int), .int .i64 0, .string ⟨#[]⟩, .string ⟨#[]⟩, .int .i64 (xl : Int), .slice kA kn kk]) (by rw [results_cell1 rfl]; go_simp) rfl ⟨[.int .i64 (xk : Int), .int .i64 0, .string ⟨#[]⟩, .string ⟨#[]⟩, .int .i64 (xl : Int), .slice kA kn kk], rfl, hTW.out, hBW.out⟩
end Go.Proofs.YtmbcddehacfpgaaDoor

namespace Go.Proofs.YtmbcddehacfpgaaDoor

theorem front_nil {s : List UInt8} (h : Fn.front s = []) : Cl.gaps s = s.length := by
  induction s with
  | nil => rfl
  | cons b r ih =>
    cases hg : Cl.isGap b with
    | true => rw [Cl.gaps_go _ hg, ih (by rwa [Fn.front_gap _ hg] at h), List.length_cons]
    | false => rw [Fn.front_word _ hg] at h; cases h
theorem emp_trim {s : List UInt8} (hl : s.length ≤ 1000000) (h : Fn.emp s = false) : Fn.trim s ≠ [] := by
  intro ht
  have hf : Fn.front s = [] := by
    unfold Fn.trim at ht
    cases hs : Fn.front s with
    | nil => rfl
    | cons b r =>
      exfalso
      have hb : Cl.isGap b = false := by
        clear ht h hl
        induction s with
        | nil => cases hs
        | cons x t ih =>
          cases hx : Cl.isGap x with
          | true => rw [Fn.front_gap _ hx] at hs; exact ih hs
          | false => rw [Fn.front_word _ hx] at hs; cases hs; exact hx
      rw [hs, Fn.back_word _ hb] at ht
      cases ht
  have hg := front_nil hf
  unfold Fn.emp at h
  rw [Cl.lead_inf s 0 (by unfold Cl.small; omega), hg] at h
  simp at h
theorem begin_left (ln : Nat) : ∀ (m k : Nat) (r : Pb.Rd) (s : List UInt8), (Pb.begin ln m k r s).2.2.length ≤ s.length + 3 * m
  | 0, _, _, _ => by rw [Pb.begin]; simp
  | m + 1, k, r, s => by
    rw [Pb.begin]
    cases ho : Bk.opener s with
    | none => simp only; omega
    | some oq =>
      obtain ⟨o, q⟩ := oq
      have h1 := (opener_len ho).1
      have h2 := begin_left ln m (k + 1) (Pb.push (Pb.fresh ln o) (Pb.closeTo k r)) q
      simp only; omega
theorem plain_short {s : List UInt8} (h : s.length ≤ 300000) : Pb.Plain s := fun n r hr => by
  obtain ⟨h1, h2⟩ := take_bounds r.row.reverse s
  rw [List.length_reverse] at h1 h2
  refine ⟨by omega, emp_trim ?_⟩
  have := begin_left n (41 - (Pb.take r.row.reverse s).1) (Pb.take r.row.reverse s).1 r (Pb.take r.row.reverse s).2
  unfold Pb.left
  omega
theorem linesOf_short (l : List UInt8) : ∀ s ∈ Pb.linesOf l, s.length ≤ 300000 := by
  intro s hs
  unfold Pb.linesOf at hs
  obtain ⟨t, ht, rfl⟩ := List.mem_map.1 hs
  have h1 := pline_len t ht
  have h2 := Ru.text_len t
  have h3 : (l.take 65536).length ≤ 65536 := by rw [List.length_take]; omega
  omega
/-- a document's tree, and its places of fences -/
theorem doc_right (l : List UInt8) : ∃ c : Pb.Cn, (Pb.read (Pb.linesOf l)).row = [c] ∧ Pb.tree (Pb.linesOf l) = c.tree ∧ c.kind = 0 ∧ Pb.rt (Pb.tree (Pb.linesOf l)) 0 0 ∧ Pb.fl c.all = (Pb.read (Pb.linesOf l)).places.map Pb.pf :=
  Pb.tree_right _ (fun s hs => plain_short (linesOf_short l s hs)) (read_one _)
end Go.Proofs.YtmbcddehacfpgaaDoor

namespace Go.Proofs.YtmbcddehacfpgaaDoor
namespace Pb
open Go.Proofs.YtmbcddehacfpgaaDoor.Bk (Tree Pl)

mutual
/-- how many blocks there are -/
def tsz : Tree → Nat
  | .mk _ _ _ _ _ ks => 1 + tszs ks
def tszs : List Tree → Nat
  | [] => 0
  | t :: ts => tsz t + tszs ts
end
theorem tsz_mk (kd lv : Nat) (tx inf : List UInt8) (ln : Nat) (ks : List Tree) : tsz (.mk kd lv tx inf ln ks) = 1 + tszs ks := by rw [tsz]
theorem tszs_nil : tszs [] = 0 := by rw [tszs]
theorem tszs_cons (t : Tree) (ts : List Tree) : tszs (t :: ts) = tsz t + tszs ts := by rw [tszs]
theorem tszs_append (a b : List Tree) : tszs (a ++ b) = tszs a + tszs b := by
  induction a with
  | nil => rw [List.nil_append, tszs_nil, Nat.zero_add]
  | cons t ts ih => rw [List.cons_append, tszs_cons, tszs_cons, ih]; omega
theorem tszs_len (ts : List Tree) : ts.length ≤ tszs ts := by
  induction ts with
  | nil => simp
  | cons t ts ih =>
    cases t with
    | mk kd lv tx inf ln ks => rw [tszs_cons, tsz_mk, List.length_cons]; omega
theorem tsz_mem {ts : List Tree} {t : Tree} (h : t ∈ ts) : tsz t ≤ tszs ts := by
  induction ts with
  | nil => cases h
  | cons x r ih =>
    rw [tszs_cons]
    rcases List.mem_cons.1 h with rfl | h
    · omega
    · have := ih h; omega
theorem few_of : ∀ (n : Nat) (t : Tree), tsz t ≤ n → tsz t ≤ 1000000000 → Bk.Few t
  | 0, .mk kd lv tx inf ln ks, h, _ => by rw [tsz_mk] at h; omega
  | n + 1, .mk kd lv tx inf ln ks, h, h9 => by
    rw [tsz_mk] at h h9
    have := tszs_len ks
    exact .mk (by omega) fun t ht => by
      have := tsz_mem ht
      exact few_of n t (by omega) (by omega)
def cw (c : Cn) : Nat := 1 + tszs c.all
def rw' : List Cn → Nat
  | [] => 0
  | c :: o => cw c + rw' o
theorem add_w (t : Tree) (c : Cn) : cw (c.add t) = cw c + tsz t := by
  unfold cw
  show 1 + tszs ((c.all ++ [t]) ++ []) = _
  rw [List.append_nil, tszs_append, tszs_cons, tszs_nil]; omega
theorem tree_w (c : Cn) : tsz c.tree = cw c := by unfold Cn.tree cw; rw [tsz_mk]
theorem give_w (d c : Cn) : cw (give d c) ≤ cw c + cw d + 1 := by
  have hnew : cw { c with kids := c.all, lst := some (d.sign, d.line, [d.tree]) } ≤ cw c + cw d + 1 := by
    unfold cw
    show 1 + tszs (c.all ++ [.mk 2 0 [] [] d.line [d.tree]]) ≤ _
    rw [tszs_append, tszs_cons, tszs_nil, tsz_mk, tszs_cons, tszs_nil, tree_w]
    unfold cw; omega
  unfold give
  split
  · unfold Cn.addItem
    cases hl : c.lst with
    | none => exact hnew
    | some x =>
      obtain ⟨s, ln, is⟩ := x
      simp only
      split
      · unfold cw
        have ha : c.all = c.kids ++ [.mk 2 0 [] [] ln is] := by unfold Cn.all; rw [hl]; rfl
        show 1 + tszs (c.kids ++ [.mk 2 0 [] [] ln (is ++ [d.tree])]) ≤ _
        rw [ha, tszs_append, tszs_append, tszs_cons, tszs_cons, tszs_nil, tsz_mk, tsz_mk, tszs_append, tszs_cons, tszs_nil, tree_w]
        unfold cw; omega
      · exact hnew
  · rw [add_w, tree_w]; omega
theorem pops_w : ∀ (n : Nat) (row : List Cn), rw' (pops n row) ≤ rw' row + n
  | 0, row => by rw [pops]; omega
  | _ + 1, [] => by rw [pops]; omega
  | _ + 1, [c] => by rw [pops]; omega
  | n + 1, d :: c :: o => by
    rw [pops]
    have h1 := pops_w n (give d c :: o)
    have h2 := give_w d c
    simp only [rw'] at h1 ⊢
    omega
theorem addTip_w (t : Tree) (r : Rd) : rw' (addTip t r).row ≤ rw' r.row + tsz t := by
  unfold addTip
  cases hr : r.row with
  | nil => simp only [hr]; omega
  | cons c o => simp only [rw', add_w]; omega
theorem closeLeaf_w (r : Rd) : rw' (closeLeaf r).row ≤ rw' r.row + 1 := by
  unfold closeLeaf
  split
  · have := addTip_w (paraTree r.leaf) r
    unfold paraTree at this ⊢
    rw [tsz_mk, tszs_nil] at this
    exact this
  · split
    · have := addTip_w (fenceTree r.leaf) r
      unfold fenceTree at this ⊢
      rw [tsz_mk, tszs_nil] at this
      exact this
    · show rw' r.row ≤ _; omega
theorem closeTo_w (k : Nat) {r : Rd} (h : r.row.length ≤ 41) : rw' (closeTo k r).row ≤ rw' r.row + 42 := by
  have h1 := closeLeaf_w r
  have h2 := pops_w ((closeLeaf r).row.length - k) (closeLeaf r).row
  have h3 := closeLeaf_row r
  unfold closeTo
  simp only
  omega
theorem fresh_w (n : Nat) (o : Option (UInt8 × Nat)) : cw (fresh n o) = 1 := by
  unfold fresh cw
  cases o <;> simp [Cn.all, listTree, tszs_nil]
theorem begin_w (n : Nat) : ∀ (m k : Nat) (r : Rd) (s : List UInt8), m + k ≤ 41 → r.row.length ≤ 41 → rw' (begin n m k r s).1.row ≤ rw' r.row + 43 * m ∧ (begin n m k r s).1.row.length ≤ 41
  | 0, _, r, _, _, h => ⟨by rw [begin]; show rw' r.row ≤ _; omega, by rw [begin]; exact h⟩
  | m + 1, k, r, s, hmk, h => by
    rw [begin]
    cases ho : Bk.opener s with
    | none => exact ⟨by simp only; omega, h⟩
    | some oq =>
      obtain ⟨o, q⟩ := oq
      have h1 := closeTo_w k h
      have h2 := (closeTo_row k r).1
      have hl : (push (fresh n o) (closeTo k r)).row.length ≤ 41 := by show (fresh n o :: (closeTo k r).row).length ≤ 41; rw [List.length_cons]; omega
      obtain ⟨h3, h4⟩ := begin_w n m (k + 1) (push (fresh n o) (closeTo k r)) q (by omega) hl
      have h5 : rw' (push (fresh n o) (closeTo k r)).row = 1 + rw' (closeTo k r).row := by show cw (fresh n o) + _ = _; rw [fresh_w]
      exact ⟨by simp only; omega, h4⟩
theorem leafLine_w (n k : Nat) (s : List UInt8) {r : Rd} (h : r.row.length ≤ 41) : rw' (leafLine n k s r).row ≤ rw' r.row + 43 := by
  have h1 := closeTo_w k h
  have ha : ∀ kd lv tx, rw' (addTip (.mk kd lv tx [] n []) (closeTo k r)).row ≤ rw' r.row + 43 := fun kd lv tx => by
    have := addTip_w (.mk kd lv tx [] n []) (closeTo k r)
    rw [tsz_mk, tszs_nil] at this
    omega
  unfold leafLine
  split
  · omega
  · split
    · exact ha _ _ _
    · split
      · exact ha _ _ _
      · split
        · show rw' (closeTo k r).row ≤ _; omega
        · split
          · show rw' r.row ≤ _; omega
          · show rw' (closeTo k r).row ≤ _; omega
theorem takeLine_w (n : Nat) (s : List UInt8) (hs : Plain s) {r : Rd} (h : r.row.length ≤ 41) : rw' (takeLine n s r).row ≤ rw' r.row + 1900 := by
  have h1 := (hs n r h).1
  unfold takeLine
  split
  · unfold fenceLine
    split
    · have := closeLeaf_w { r with leaf := { r.leaf with ended := true } }
      exact Nat.le_trans this (by show rw' r.row + 1 ≤ _; omega)
    · show rw' r.row ≤ _; omega
  · obtain ⟨h2, h3⟩ := begin_w n (41 - (take r.row.reverse s).1) (take r.row.reverse s).1 r (take r.row.reverse s).2 (by omega) h
    have h4 := leafLine_w n (begin n (41 - (take r.row.reverse s).1) (take r.row.reverse s).1 r (take r.row.reverse s).2).2.1 (begin n (41 - (take r.row.reverse s).1) (take r.row.reverse s).1 r (take r.row.reverse s).2).2.2 h3
    omega
theorem lines_w : ∀ (ls : List (List UInt8)) (n : Nat) (r : Rd), (∀ s ∈ ls, Plain s) → Inv n r → rw' (lines ls n r).row ≤ rw' r.row + 1900 * ls.length
  | [], _, _, _, _ => by rw [lines]; simp
  | s :: t, n, r, hs, h => by
    have h1 := takeLine_w n s (hs s List.mem_cons_self) h.1
    have h2 := lines_w t (n + 1) _ (fun x hx => hs x (List.mem_cons_of_mem _ hx)) (inv_mono (takeLine_ok h s (hs s List.mem_cons_self)) (Nat.le_succ n))
    rw [lines, List.length_cons]
    omega
end Pb
theorem linesOf_len (l : List UInt8) : (Pb.linesOf l).length ≤ 65536 := by
  unfold Pb.linesOf
  rw [List.length_map]
  have h1 := Ln.texts_len (l.take 65536) 0
  have h3 : (l.take 65536).length ≤ 65536 := by rw [List.length_take]; omega
  omega
theorem tree_few (l : List UInt8) : Bk.Few (Pb.tree (Pb.linesOf l)) := by
  have hp : ∀ s ∈ Pb.linesOf l, Pb.Plain s := fun s hs => plain_short (linesOf_short l s hs)
  have h1 := linesOf_len l
  have h2 := Pb.lines_w (Pb.linesOf l) 0 Pb.start hp Pb.start_ok
  have h3 := Pb.closeTo_w 1 (Pb.lines_ok (Pb.linesOf l) 0 Pb.start hp Pb.start_ok).1
  have h4 : Pb.rw' Pb.start.row = 1 := by
    show Pb.cw _ + 0 = 1
    unfold Pb.cw
    simp [Pb.Cn.all, Pb.listTree, Pb.tszs_nil]
  obtain ⟨c, h5, h6, _⟩ := doc_right l
  have h7 : Pb.rw' (Pb.read (Pb.linesOf l)).row = Pb.cw c := by rw [h5]; rfl
  have h8 : Pb.rw' (Pb.read (Pb.linesOf l)).row ≤ Pb.rw' (Pb.lines (Pb.linesOf l) 0 Pb.start).row + 42 := h3
  rw [h6]
  exact Pb.few_of _ _ (Nat.le_refl _) (by rw [Pb.tree_w]; omega)
end Go.Proofs.YtmbcddehacfpgaaDoor

namespace Go.Proofs.YtmbcddehacfpgaaDoor
open Go.RowKit
attribute [local go_sem] canOp readsAs readUpon

set_option maxHeartbeats 2000000 in
set_option maxRecDepth 100000 in
theorem pfences (l : List UInt8) (A : Option Addr) (c : Nat) (w : World) (hR : Row w w.heap.size 1 A l.length (bcells l)) (hlc : l.length ≤ c) (hl : l.length ≤ 9223372036854775807) :
    Calls Tryd.prog 9 #[.slice A l.length c] w fun e w' => ∃ v, e = .returned v ∧ w'.ownsRow w.heap.size 39 8 v (Pb.read (Pb.linesOf l)).places.length (plcCells (Pb.read (Pb.linesOf l)).places) ∧ Below w.heap.size w w' := by
  have hrd := pread l A c w hR hlc hl
  obtain ⟨G, hG⟩ : ∃ G, Pb.read (Pb.linesOf l) = G := ⟨_, rfl⟩
  rw [hG] at hrd ⊢
  clear hG
  go_enter Tryd.func9, Tryd.ntmps9
  go_wp2_with fail
  refine hrd.mono ?_
  rintro e w1 ⟨R, rv, lv, pv, M, row, rfl, hrow, hA, _, _, hb1⟩
  have hop := hA.hp.own (k := .pls) rfl
  have hnew := ext_alloc w1 (.cells (rdArr rv lv pv G.leaf) 54)
  have hopf := Lib.hid (own_base (own_below hop hnew) (by omega : w.heap.size ≤ w.heap.size + 1))
  have hBf := Lib.hid (ext_trans hb1 hnew)
  obtain ⟨gl, hgl⟩ : ∃ gl, G.leaf = gl := ⟨_, rfl⟩
  obtain ⟨rA, rc, hrv, _⟩ := own_shape (hA.hp.own (k := .row) rfl)
  obtain ⟨lA, lc, hlv, _⟩ := own_shape (hA.hp.own (k := .lns) rfl)
  obtain ⟨pA, pc, hpv, _⟩ := own_shape hop
  obtain ⟨rn, hrn⟩ : ∃ rn, row.length = rn := ⟨_, rfl⟩
  obtain ⟨ln, hln⟩ : ∃ ln, G.leaf.lines.length = ln := ⟨_, rfl⟩
  obtain ⟨pn, hpn⟩ : ∃ pn, G.places.length = pn := ⟨_, rfl⟩
  rw [hrn] at hrv
  rw [hln] at hlv
  rw [hpn] at hpv
  rw [hgl] at hopf hBf ⊢
  rw [hrv, hlv, hpv] at hopf hBf ⊢
  replace hA := Lib.hid hA
  replace hop := Lib.hid hop
  clear hrn hln hpn hrv hlv hpv hnew
  go_wp2_with fail
  go_ret
  exact ⟨_, rfl, hopf.out, hBf.out⟩
end Go.Proofs.YtmbcddehacfpgaaDoor
