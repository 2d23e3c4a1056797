/- The program's reader of blocks: a document's lines. The program's own answers of chapter 7: a tree of blocks; places of fences. The program's places of fences. The document's own parser of blocks: all lines of a document. The document's own answers of chapter 7: a tree of blocks; places of fences. Law 7: two trees of one shape are the same. Law 7's 'reads': the program's and the document's own answer of any bytes are the same. -/
import Derived.Test.YtmbcddehacfpgaaGreatDoorMt22
import Derived.Test.YtmbcddehacfpgaaGreatDoorMt04
import Derived.Test.YtmbcddehacfpgaaGreatDoorMt24
import Derived.Test.YtmbcddehacfpgaaGreatDoorMt23
import Derived.Test.YtmbcddehacfpgaaGreatDoorMt08
import Derived.Test.YtmbcddehacfpgaaGreatDoorMt15
import Derived.Test.YtmbcddehacfpgaaGreatDoorMt02
import Derived.Test.YtmbcddehacfpgaaGreatDoorMt03
namespace Go.Proofs.YtmbcddehacfpgaaGreatDoor
open Go.RowKit
attribute [local go_sem] canOp readsAs readUpon

/-- a document's lines, as they are read: no more than 65536 bytes -/
def Pb.linesOf (l : List UInt8) : List (List UInt8) := (Ln.texts (l.take 65536) 0).map Ru.text
theorem pline_len {l : List UInt8} {k : Nat} : ∀ s ∈ Ln.texts l k, s.length ≤ l.length := by
  intro s hs
  unfold Ln.texts at hs
  obtain ⟨x, _, rfl⟩ := List.mem_map.1 hs
  unfold mid
  rw [List.length_take, List.length_drop]; omega
theorem plines_at {ts : List (List UInt8)} {k : Nat} (h : k < ts.length) (r : Pb.Rd) : Pb.lines ((ts.drop k).map Ru.text) k r = Pb.lines ((ts.drop (k + 1)).map Ru.text) (k + 1) (Pb.takeLine k (Ru.text ts[k]) r) := by
  rw [List.drop_eq_getElem_cons h, List.map_cons, Pb.lines]
theorem plines_end {ts : List (List UInt8)} {k : Nat} (h : ¬ k < ts.length) (r : Pb.Rd) : Pb.lines ((ts.drop k).map Ru.text) k r = r := by
  rw [List.drop_eq_nil_of_le (by omega)]; rfl
theorem Hp.low {K : Type} {w w' : World} {B g : Nat} {m : K → Option Part} (h : Hp w B m) (hg : w.grownBy w' (some g)) (hl : g < B) : Hp w' B m :=
  ⟨fun k a ha => Part.kept (h.holds k a ha) hg (by
    cases hb : a.block with
    | none => exact .inl rfl
    | some b => exact .inr fun e => by have := (Part.lt (h.holds k a ha) hb).1; cases e; omega), h.apart⟩
abbrev docArr : Array Value := #[.int .i64 0, .int .i64 0, .string ⟨#[]⟩, .string ⟨#[]⟩, .int .i64 0, .slice none 0 0, .int .u8 0, .int .i64 0, .int .u8 0]
abbrev rdArr (rv lv pv : Value) (l : Pb.Of) : Array Value := #[rv, .int .i64 (l.kind : Int), .int .i64 (l.line : Int), lv, .int .u8 (l.op.c.toNat : Int), .int .i64 (l.op.n : Int), .int .i64 (l.op.ind : Int), .string (bs l.op.info), .bool l.ended, pv]
abbrev rd0 (rv : Value) : Array Value := #[rv, .int .i64 0, .int .i64 0, .slice none 0 0, .int .u8 0, .int .i64 0, .int .i64 0, .string ⟨#[]⟩, .bool false, .slice none 0 0]
def docMC : MC := ⟨⟨0, 0, [], 0, 0, none⟩, .slice none 0 0, [], .slice none 0 0, []⟩
theorem start_pat (w : World) : PAt ((w.alloc (.cells docArr 60)).alloc (.cells (rd0 (.slice (some ⟨w.heap.size, 0, none⟩) 1 1)) 57)) w.heap.size (fun _ => none) (w.heap.size + 1) (.slice (some ⟨w.heap.size, 0, none⟩) 1 1) (.slice none 0 0) (.slice none 0 0) (fun _ => none) [docMC] Pb.noLeaf [] := by
  have H0 : Hp w w.heap.size (fun _ : PKey => (none : Option Part)) := ⟨fun _ _ h => (by cases h), fun _ _ _ _ _ h => (by cases h)⟩
  have H1 := H0.umore (k := .row) (.row 60 9 (.slice (some ⟨w.heap.size, 0, none⟩) 1 1) 1 docArr.toList) rfl (ext_alloc w (.cells docArr 60)) ⟨rfl, .inr ⟨w.heap.size, 1, docArr, rfl, Nat.le_refl _, heap_alloc_new w _, Nat.le_refl _, by unfold maxLen; omega, rfl, rfl⟩⟩ (fun g e => by cases e; exact Nat.le_refl _)
  have hz : (w.alloc (.cells docArr 60)).heap.size = w.heap.size + 1 := by simp
  have H2 := H1.umore (k := .rd) (.blk (w.heap.size + 1) (rd0 (.slice (some ⟨w.heap.size, 0, none⟩) 1 1)) 57) (upd_other _ _ (by simp)) (ext_alloc _ (.cells (rd0 (.slice (some ⟨w.heap.size, 0, none⟩) 1 1)) 57)) ⟨by omega, by
    have := heap_alloc_new (w.alloc (.cells docArr 60)) (.cells (rd0 (.slice (some ⟨w.heap.size, 0, none⟩) 1 1)) 57)
    rw [hz] at this; exact this⟩ (fun g e => by cases e; exact Nat.le_of_eq hz)
  have H3 := H2.umore (k := .lns) (.row 9 1 (.slice none 0 0) 0 []) ((upd_other _ _ (by simp)).trans (upd_other _ _ (by simp))) (Below.refl _ _) (World.ownsRow_nil _ _ _ _) (fun g e => by cases e)
  have H4 := H3.umore (k := .pls) (.row 46 8 (.slice none 0 0) 0 []) ((upd_other _ _ (by simp)).trans ((upd_other _ _ (by simp)).trans (upd_other _ _ (by simp)))) (Below.refl _ _) (World.ownsRow_nil _ _ _ _) (fun g e => by cases e)
  have H5 := H4.umore (k := .kid 0) (.row 37 6 (.slice none 0 0) 0 []) ((upd_other _ _ (by simp)).trans ((upd_other _ _ (by simp)).trans ((upd_other _ _ (by simp)).trans (upd_other _ _ (by simp))))) (Below.refl _ _) (World.ownsRow_nil _ _ _ _) (fun g e => by cases e)
  refine ⟨H5.same fun j => ?_, fun x hx => ?_, fun b a e => by cases e⟩
  · cases j with
    | kid i =>
      cases i with
      | zero => rfl
      | succ i => rfl
    | itm i =>
      cases i with
      | zero => rfl
      | succ i => rfl
    | _ => rfl
  · rw [List.mem_singleton.1 hx]
    exact ⟨TMs_nil, fun _ _ _ e => by cases e⟩
theorem start_sz : Pb.Sz 0 0 Pb.start := by
  refine ⟨by decide, by decide, fun c hc => ?_, fun c hc s ln is e => ?_, fun c hc e => ?_, by decide, fun s hs => (by cases hs), by decide, by decide⟩
  · rw [List.mem_singleton.1 hc]; decide
  · rw [List.mem_singleton.1 hc] at e; cases e
  · rw [List.mem_singleton.1 hc] at e; cases e
/-- ten cells are written -/
def ten (w : World) (g : Nat) (a0 a1 a2 a3 a4 a5 a6 a7 a8 a9 : Value) : World := ((((((((((w.setCell ⟨g, 0, none⟩ a0).setCell ⟨g, 1, none⟩ a1).setCell ⟨g, 2, none⟩ a2).setCell ⟨g, 3, none⟩ a3).setCell ⟨g, 4, none⟩ a4).setCell ⟨g, 5, none⟩ a5).setCell ⟨g, 6, none⟩ a6).setCell ⟨g, 7, none⟩ a7).setCell ⟨g, 8, none⟩ a8).setCell ⟨g, 9, none⟩ a9)
theorem ten_at {w : World} {g : Nat} {z0 z1 z2 z3 z4 z5 z6 z7 z8 z9 : Value} {t : TypeId} (h : w.heap[g]? = some (.cells #[z0, z1, z2, z3, z4, z5, z6, z7, z8, z9] t (0, 0))) (a0 a1 a2 a3 a4 a5 a6 a7 a8 a9 : Value) : (ten w g a0 a1 a2 a3 a4 a5 a6 a7 a8 a9).heap[g]? = some (.cells #[a0, a1, a2, a3, a4, a5, a6, a7, a8, a9] t (0, 0)) := by
  unfold ten
  have h1 : (w.setCell ⟨g, 0, none⟩ a0).heap[g]? = some (.cells #[a0, z1, z2, z3, z4, z5, z6, z7, z8, z9] t (0, 0)) := heap_setCell_same w g 0 _ t a0 h
  generalize hw1 : (w.setCell ⟨g, 0, none⟩ a0) = w1 at h1 ⊢
  have h2 : (w1.setCell ⟨g, 1, none⟩ a1).heap[g]? = some (.cells #[a0, a1, z2, z3, z4, z5, z6, z7, z8, z9] t (0, 0)) := heap_setCell_same w1 g 1 _ t a1 h1
  generalize hw2 : (w1.setCell ⟨g, 1, none⟩ a1) = w2 at h2 ⊢
  have h3 : (w2.setCell ⟨g, 2, none⟩ a2).heap[g]? = some (.cells #[a0, a1, a2, z3, z4, z5, z6, z7, z8, z9] t (0, 0)) := heap_setCell_same w2 g 2 _ t a2 h2
  generalize hw3 : (w2.setCell ⟨g, 2, none⟩ a2) = w3 at h3 ⊢
  have h4 : (w3.setCell ⟨g, 3, none⟩ a3).heap[g]? = some (.cells #[a0, a1, a2, a3, z4, z5, z6, z7, z8, z9] t (0, 0)) := heap_setCell_same w3 g 3 _ t a3 h3
  generalize hw4 : (w3.setCell ⟨g, 3, none⟩ a3) = w4 at h4 ⊢
  have h5 : (w4.setCell ⟨g, 4, none⟩ a4).heap[g]? = some (.cells #[a0, a1, a2, a3, a4, z5, z6, z7, z8, z9] t (0, 0)) := heap_setCell_same w4 g 4 _ t a4 h4
  generalize hw5 : (w4.setCell ⟨g, 4, none⟩ a4) = w5 at h5 ⊢
  have h6 : (w5.setCell ⟨g, 5, none⟩ a5).heap[g]? = some (.cells #[a0, a1, a2, a3, a4, a5, z6, z7, z8, z9] t (0, 0)) := heap_setCell_same w5 g 5 _ t a5 h5
  generalize hw6 : (w5.setCell ⟨g, 5, none⟩ a5) = w6 at h6 ⊢
  have h7 : (w6.setCell ⟨g, 6, none⟩ a6).heap[g]? = some (.cells #[a0, a1, a2, a3, a4, a5, a6, z7, z8, z9] t (0, 0)) := heap_setCell_same w6 g 6 _ t a6 h6
  generalize hw7 : (w6.setCell ⟨g, 6, none⟩ a6) = w7 at h7 ⊢
  have h8 : (w7.setCell ⟨g, 7, none⟩ a7).heap[g]? = some (.cells #[a0, a1, a2, a3, a4, a5, a6, a7, z8, z9] t (0, 0)) := heap_setCell_same w7 g 7 _ t a7 h7
  generalize hw8 : (w7.setCell ⟨g, 7, none⟩ a7) = w8 at h8 ⊢
  have h9 : (w8.setCell ⟨g, 8, none⟩ a8).heap[g]? = some (.cells #[a0, a1, a2, a3, a4, a5, a6, a7, a8, z9] t (0, 0)) := heap_setCell_same w8 g 8 _ t a8 h8
  generalize hw9 : (w8.setCell ⟨g, 8, none⟩ a8) = w9 at h9 ⊢
  have h10 : (w9.setCell ⟨g, 9, none⟩ a9).heap[g]? = some (.cells #[a0, a1, a2, a3, a4, a5, a6, a7, a8, a9] t (0, 0)) := heap_setCell_same w9 g 9 _ t a9 h9
  exact h10
theorem ten_below {B : Nat} {w0 w : World} (hb : Below B w0 w) {g : Nat} (hg : B ≤ g) (a0 a1 a2 a3 a4 a5 a6 a7 a8 a9 : Value) : Below B w0 (ten w g a0 a1 a2 a3 a4 a5 a6 a7 a8 a9) := by
  unfold ten
  exact ((((((((((hb.setCell (p := ⟨g, 0, none⟩) hg a0).setCell (p := ⟨g, 1, none⟩) hg a1).setCell (p := ⟨g, 2, none⟩) hg a2).setCell (p := ⟨g, 3, none⟩) hg a3).setCell (p := ⟨g, 4, none⟩) hg a4).setCell (p := ⟨g, 5, none⟩) hg a5).setCell (p := ⟨g, 6, none⟩) hg a6).setCell (p := ⟨g, 7, none⟩) hg a7).setCell (p := ⟨g, 8, none⟩) hg a8).setCell (p := ⟨g, 9, none⟩) hg a9)
theorem ten_grown (w : World) (g : Nat) (a0 a1 a2 a3 a4 a5 a6 a7 a8 a9 : Value) : w.grownBy (ten w g a0 a1 a2 a3 a4 a5 a6 a7 a8 a9) (some g) := by
  unfold ten
  exact ((((((((((grown_set w ⟨g, 0, none⟩ a0).trans (grown_set _ ⟨g, 1, none⟩ a1)).trans (grown_set _ ⟨g, 2, none⟩ a2)).trans (grown_set _ ⟨g, 3, none⟩ a3)).trans (grown_set _ ⟨g, 4, none⟩ a4)).trans (grown_set _ ⟨g, 5, none⟩ a5)).trans (grown_set _ ⟨g, 6, none⟩ a6)).trans (grown_set _ ⟨g, 7, none⟩ a7)).trans (grown_set _ ⟨g, 8, none⟩ a8)).trans (grown_set _ ⟨g, 9, none⟩ a9))

set_option maxHeartbeats 4000000 in
set_option maxRecDepth 100000 in
theorem pread (l : List UInt8) (A : Option Addr) (c : Nat) (w : World) (hR : Row w w.heap.size 1 A l.length (bcells l)) (hlc : l.length ≤ c) (hl : l.length ≤ 1000000000000) :
    Calls Tryz.prog 18 #[.slice A l.length c] w fun e w' => ∃ R rv lv pv M row, e = .returned (.agg (rdArr rv lv pv (Pb.read (Pb.linesOf l)).leaf)) ∧ row.map (·.c) = (Pb.read (Pb.linesOf l)).row ∧ PAt w' (w.heap.size + 1) (fun _ => none) R rv lv pv M row (Pb.read (Pb.linesOf l)).leaf (Pb.read (Pb.linesOf l)).places ∧ Pb.Sz 800000000 0 (Pb.read (Pb.linesOf l)) ∧ Pb.Doc (Pb.read (Pb.linesOf l)).row ∧ Below w.heap.size w w' := by
  obtain ⟨m, hm⟩ : ∃ m, (l.take 65536).length = m := ⟨_, rfl⟩
  have hml : m ≤ 65536 ∧ m ≤ l.length := by rw [← hm, List.length_take]; omega
  have hmin : (if (65536 : Int) < (l.length : Int) then (65536 : Int) else (l.length : Int)) = (m : Int) ∧ min (l.length : Int) 65536 = (m : Int) := by
    rw [List.length_take] at hm
    refine ⟨?_, by omega⟩
    split <;> omega
  have hR2 : Row w w.heap.size 1 A m (bcells (l.take 65536)) := by
    have := hR.take hml.2
    rw [Nat.mul_one] at this
    have e : (bcells l).take m = bcells (l.take 65536) := by
      unfold bcells
      rw [← List.map_take]
      congr 1
      rw [← hm, List.length_take]
      rcases Nat.le_total 65536 l.length with h | h
      · rw [Nat.min_eq_left h]
      · rw [Nat.min_eq_right h, List.take_of_length_le (Nat.le_refl _), List.take_of_length_le h]
    rwa [e] at this
  have htx := fun w' h => texts_any (l.take 65536) A c w' h (by rw [hm]; omega) (by rw [hm]; omega)
  have hlo : Pb.linesOf l = (Ln.texts (l.take 65536) 0).map Ru.text := rfl
  have hll := @pline_len (l.take 65536) 0
  have htn := Ln.texts_len (l.take 65536) 0
  rw [hm] at htx hll htn
  obtain ⟨ts, hts⟩ : ∃ ts, Ln.texts (l.take 65536) 0 = ts := ⟨_, rfl⟩
  rw [hts] at htx hlo hll htn
  rw [hlo]
  have hcs : (l.length : Int) ≤ (c : Int) := by omega
  have hmc : (m : Int) ≤ (c : Int) := by omega
  obtain ⟨hmin1, hmin2⟩ := hmin
  obtain ⟨G, hG⟩ : ∃ G, Pb.read (ts.map Ru.text) = G := ⟨_, rfl⟩
  rw [hG]
  obtain ⟨gl, hgl0⟩ : ∃ gl, G.leaf = gl := ⟨_, rfl⟩
  rw [hgl0]
  replace hgl0 := Lib.hid hgl0
  obtain ⟨G0, hG0⟩ : ∃ G0, Pb.lines ((ts.drop 0).map Ru.text) 0 Pb.start = G0 := ⟨_, rfl⟩
  have hGG : Pb.closeTo 1 G0 = G := by rw [← hG0, ← hG]; rfl
  have hs0 := ext_alloc w (.cells (rd0 (.slice none 0 0)) 57)
  have hn0 := heap_alloc_new w (.cells (rd0 (.slice none 0 0)) 57)
  have hz0 : (w.alloc (.cells (rd0 (.slice none 0 0)) 57)).heap.size = w.heap.size + 1 := by simp
  have hP0 := start_pat (w.alloc (.cells (rd0 (.slice none 0 0)) 57))
  have hb0 : Below (w.heap.size + 1) (w.alloc (.cells (rd0 (.slice none 0 0)) 57)) _ := (((Below.refl _ _).alloc (by rw [hz0]; exact Nat.le_refl _) (.cells docArr 60)).alloc (by simp) (.cells (rd0 (.slice (some ⟨(w.alloc (.cells (rd0 (.slice none 0 0)) 57)).heap.size, 0, none⟩) 1 1)) 57))
  rw [hz0] at hP0 hb0
  obtain ⟨wa, hwa⟩ : ∃ wa, w.alloc (.cells (rd0 (.slice none 0 0)) 57) = wa := ⟨_, rfl⟩
  rw [hwa] at hP0 hb0 hs0 hn0 hz0
  obtain ⟨w0, hw0⟩ : ∃ w0, (wa.alloc (.cells docArr 60)).alloc (.cells (rd0 (.slice (some ⟨w.heap.size + 1, 0, none⟩) 1 1)) 57) = w0 := ⟨_, rfl⟩
  rw [hw0] at hP0 hb0
  have hRw : Row w0 w0.heap.size 1 A m (bcells (l.take 65536)) := hR2.ext (hs0.trans (hb0.mono (by omega)))
  have hPS0 : PS w0 (w.heap.size + 1) (fun _ => none) (w.heap.size + 1 + 1) Pb.start := ⟨_, _, _, _, [docMC], rfl, hP0⟩
  replace hR := Lib.hid hR
  replace hwa := Lib.hid hwa
  replace hw0 := Lib.hid hw0
  replace hPS0 := Lib.hid hPS0
  replace hG := Lib.hid hG
  replace hG0 := Lib.hid hG0
  replace hGG := Lib.hid hGG
  clear hlo hP0 hR2
  go_enter Tryz.func18, Tryz.ntmps18
  go_wp2_with fail
  have hwa' := hwa.out
  have hw0' := hw0.out
  simp only [rd0, docArr] at hwa' hw0'
  rw [hwa', hw0']
  refine (htx w0 hRw).mono ?_
  rintro e w1 ⟨v, rfl, hown, hb1⟩
  obtain ⟨rv0, lv0, pv0, M0, row0, hrow0, hA0⟩ := hPS0.out
  have hz0b : w.heap.size + 1 ≤ w0.heap.size := by have := hb0.size; omega
  have hownB : w1.ownsRow (w.heap.size + 1) 9 1 v ts.length (scells ts) := ⟨hown.1, hown.2.imp id (fun ⟨g, cc, cur, e1, e2, e3⟩ => ⟨g, cc, cur, e1, by omega, e3⟩)⟩
  have hA1 := hA0.ext_in (a := .row 9 1 v ts.length (scells ts)) hb1 hownB (fun g hg => (World.ownsRow.lt hown g hg).1)
  obtain ⟨B, hBB⟩ : ∃ B, w.heap.size + 1 = B := ⟨_, rfl⟩
  obtain ⟨E, hE⟩ : ∃ E, shiftE (.row 9 1 v ts.length (scells ts)) (fun _ => none) = E := ⟨_, rfl⟩
  have hE0 : E 0 = some (.row 9 1 v ts.length (scells ts)) := by rw [← hE]; rfl
  rw [hBB] at hA1 hz0b hb0 ⊢
  rw [hE] at hA1
  have hB1 : Below B wa w1 := hb0.trans (hb1.mono hz0b)
  obtain ⟨vA, vc, rfl, hvc⟩ := own_shape hown
  obtain ⟨R, hRR⟩ : ∃ R, B + 1 = R := ⟨_, rfl⟩
  rw [hRR] at hA1 ⊢
  have hP1 := Lib.hid (⟨rv0, lv0, pv0, M0, row0, hrow0, hA1⟩ : PS w1 B E R Pb.start)
  replace hB1 := Lib.hid hB1
  replace hE0 := Lib.hid hE0
  replace hE := Lib.hid hE
  replace hBB := Lib.hid hBB
  replace hRR := Lib.hid hRR
  have hts5 : ts.length ≤ 65536 := by omega
  clear hown hb1 hb0 hA1 hA0 hrow0 hownB hwa' hw0' htx hz0b
  go_wp2_with fail
  go_loopw [17] (fun u wr => ∃ (k : Nat) (r1 : Pb.Rd), k ≤ ts.length ∧ u = .int .i64 (k : Int) ∧ Hid (PS wr B E R r1) ∧ Hid (Pb.Sz (2100 * k) k r1) ∧ Hid (Pb.Doc r1.row) ∧ Hid (Pb.lines ((ts.drop k).map Ru.text) k r1 = G0) ∧ Hid (Below B wa wr)) (fun u _ => ts.length - (intOf u).toNat)
  case atStart => exact ⟨0, Pb.start, by omega, rfl, hP1, Lib.hid start_sz, Lib.hid (by unfold Pb.Doc; rfl), hG0, hB1⟩
  case round =>
    obtain ⟨k, r1, hk, rfl, hP, hz, hd, hgl, hb⟩ := hrel
    rcases Nat.lt_or_eq_of_le hk with hlt | hke
    · obtain ⟨rv, lv, pv, M, row, hrow, hA⟩ := hP.out
      have hBr : B ≤ wr.heap.size := by have := rd_facts hA; omega
      have hrw := hA.hp.own (k := .ext 0) hE0.out
      obtain ⟨g, gc, cur, hv, _, _, hgw, _⟩ := own_block hrw (by omega)
      cases hv
      obtain ⟨s, hs⟩ : ∃ s, ts[k] = s := ⟨_, rfl⟩
      have hx := own_cell (j := k) (u := .string (bs s)) hrw (by unfold scells; rw [List.getElem?_map, List.getElem?_eq_getElem hlt, hs]; rfl)
      have hsl := hll s (by rw [← hs]; exact List.getElem_mem hlt)
      have hst := plines_at hlt r1
      rw [hs, hgl.out] at hst
      have hrb := run_bytes s
      have htl := Ru.text_len s
      have hbb := below_bytes wr (bs s)
      have htt := text_any s (some ⟨wr.heap.size, 0, none⟩) (grownCap wr s.length 0 5) (Lib.bytesWorld wr 5 (bs s)) (row_bytes _ s) (by omega)
      have hln := fun wz hz' => ptakeLine wz B E R r1 hz' hz.out hd.out (by omega) (by omega) k (by omega) (Ru.text s) (by omega)
      replace hs := Lib.hid hs
      replace hst := Lib.hid hst
      replace hrw := Lib.hid hrw
      replace hA := Lib.hid hA
      replace hln := Lib.hid hln
      replace hbb := Lib.hid hbb
      replace hrow := Lib.hid hrow
      have hgl1 := (Array.getElem?_eq_some_iff.1 hgw).1
      clear hgw
      have hk1 : (k : Int) < (ts.length : Int) := by omega
      have hk0 : (0 : Int) ≤ (k : Int) := by omega
      have hcv := hrb
      clear hrb
      go_wp2_with fail
      refine htt.mono ?_
      rintro e w3 ⟨rfl, hb3⟩
      have hb23 := ext_trans hbb.out hb3
      have hP3 := Lib.hid (⟨rv, lv, pv, M, row, hrow.out, PAt.mk (hA.out.hp.ext hb23) hA.out.good hA.out.old⟩ : PS w3 B E R r1)
      have hB3 := Lib.hid (hb.out.trans (hb23.mono hBr))
      clear hcv htt hb23 hb3
      go_wp2_with fail
      refine (hln.out _ hP3.out).mono ?_
      rintro e w4 ⟨rfl, ⟨hP4, hz4, hd4⟩, hb4⟩
      replace hP4 := Lib.hid hP4
      replace hz4 := Lib.hid hz4
      replace hd4 := Lib.hid hd4
      replace hb4 := Lib.hid (hB3.out.trans hb4)
      go_wp2_with fail
      go_roundw
      case rel => exact ⟨k + 1, _, by omega, by go_num, hP4, Lib.hid (by have := hz4.out; rw [show 2100 * (k + 1) = 2100 * k + 2100 from by omega]; exact this), hd4, Lib.hid hst.out.symm, hb4⟩
      case measure => simp [intOf]; omega
    · have hG1 := hgl.out
      rw [plines_end (by omega)] at hG1
      have hto := fun wz hz' => pcloseTo wz B E R r1 hz' hz.out (by omega) (by omega) 1 (by omega)
      have hres : Pb.Sz 800000000 0 (Pb.closeTo 1 r1) ∧ Pb.Doc (Pb.closeTo 1 r1).row := ⟨(closeTo_sz hz.out 1 0).mono (by omega) (Nat.le_refl _), closeTo_doc (Nat.le_refl _) hz.out.pos hd.out⟩
      rw [show Pb.closeTo 1 r1 = G from by rw [hG1]; exact hGG.out] at hto hres
      replace hres := Lib.hid hres
      replace hto := Lib.hid hto
      replace hG1 := Lib.hid hG1
      have hkn : ¬ (k : Int) < (ts.length : Int) := by omega
      clear hke
      go_wp2_with fail
      refine (hto.out _ hP.out).mono ?_
      rintro e w5 ⟨rfl, hP5, hb5⟩
      obtain ⟨rv, lv, pv, M, row, hrow, hA⟩ := hP5
      rw [← hE.out] at hA
      have hA5 := hA.ext_out
      obtain ⟨rA, rc, hrv, _⟩ := own_shape (hA5.hp.own (k := .row) rfl)
      obtain ⟨lA, lc, hlv, _⟩ := own_shape (hA5.hp.own (k := .lns) rfl)
      obtain ⟨pA, pc, hpv, _⟩ := own_shape (hA5.hp.own (k := .pls) rfl)
      obtain ⟨rn, hrn⟩ : ∃ rn, row.length = rn := ⟨_, rfl⟩
      obtain ⟨ln, hln⟩ : ∃ ln, gl.lines.length = ln := ⟨_, rfl⟩
      obtain ⟨pn, hpn⟩ : ∃ pn, G.places.length = pn := ⟨_, rfl⟩
      rw [hgl0.out] at hA5 hlv
      rw [hrn] at hrv
      rw [hln] at hlv
      rw [hpn] at hpv
      obtain ⟨hR1, hR2, _, d0, d1, d2, d3, d4, d5, d6, d7, d8, d9⟩ := rd_facts hA5
      rw [hrv] at d0
      rw [hlv] at d3
      rw [hpv] at d9
      have hbw5 := hb.out.trans hb5
      have hn5 := (hbw5.block w.heap.size (by have := hBB.out; omega)).trans hn0
      have z0 := cell_of hn5 (j := 0) rfl
      have z1 := cell_of hn5 (j := 1) rfl
      have z2 := cell_of hn5 (j := 2) rfl
      have z3 := cell_of hn5 (j := 3) rfl
      have z4 := cell_of hn5 (j := 4) rfl
      have z5 := cell_of hn5 (j := 5) rfl
      have z6 := cell_of hn5 (j := 6) rfl
      have z7 := cell_of hn5 (j := 7) rfl
      have z8 := cell_of hn5 (j := 8) rfl
      have z9 := cell_of hn5 (j := 9) rfl
      have zf := blk_free hn5
      have hlow := hA5.hp.low (ten_grown w5 w.heap.size (.slice rA rn rc) (.int .i64 (gl.kind : Int)) (.int .i64 (gl.line : Int)) (.slice lA ln lc) (.int .u8 (gl.op.c.toNat : Int)) (.int .i64 (gl.op.n : Int)) (.int .i64 (gl.op.ind : Int)) (.string (bs gl.op.info)) (.bool gl.ended) (.slice pA pn pc)) (by have := hBB.out; omega)
      have hW := ten_at hn5 (.slice rA rn rc) (.int .i64 (gl.kind : Int)) (.int .i64 (gl.line : Int)) (.slice lA ln lc) (.int .u8 (gl.op.c.toNat : Int)) (.int .i64 (gl.op.n : Int)) (.int .i64 (gl.op.ind : Int)) (.string (bs gl.op.info)) (.bool gl.ended) (.slice pA pn pc)
      have hBw5 : Below w.heap.size w w5 := hs0.trans (hbw5.mono (by have := hBB.out; omega))
      have hBW : Below w.heap.size w (ten w5 w.heap.size (.slice rA rn rc) (.int .i64 (gl.kind : Int)) (.int .i64 (gl.line : Int)) (.slice lA ln lc) (.int .u8 (gl.op.c.toNat : Int)) (.int .i64 (gl.op.n : Int)) (.int .i64 (gl.op.ind : Int)) (.string (bs gl.op.info)) (.bool gl.ended) (.slice pA pn pc)) := ten_below hBw5 (Nat.le_refl _) _ _ _ _ _ _ _ _ _ _
      have hfinA := Lib.hid (PAt.mk hlow hA5.good hA5.old)
      replace hA5 := Lib.hid hA5
      replace hA := Lib.hid hA
      replace hn5 := Lib.hid hn5
      replace hlow := Lib.hid hlow
      replace hBw5 := Lib.hid hBw5
      replace hbw5 := Lib.hid hbw5
      replace hrow := Lib.hid hrow
      replace hrv := Lib.hid hrv
      replace hlv := Lib.hid hlv
      replace hpv := Lib.hid hpv
      replace hn0 := Lib.hid hn0
      clear hrn hln hpn
      go_wp2_with fail
      change bodyPost _ _ _ _ _ (ten w5 w.heap.size (.slice rA rn rc) (.int .i64 (gl.kind : Int)) (.int .i64 (gl.line : Int)) (.slice lA ln lc) (.int .u8 (gl.op.c.toNat : Int)) (.int .i64 (gl.op.n : Int)) (.int .i64 (gl.op.ind : Int)) (.string (bs gl.op.info)) (.bool gl.ended) (.slice pA pn pc))
      generalize ten w5 w.heap.size (.slice rA rn rc) (.int .i64 (gl.kind : Int)) (.int .i64 (gl.line : Int)) (.slice lA ln lc) (.int .u8 (gl.op.c.toNat : Int)) (.int .i64 (gl.op.n : Int)) (.int .i64 (gl.op.ind : Int)) (.string (bs gl.op.info)) (.bool gl.ended) (.slice pA pn pc) = wz at hW hBW hfinA ⊢
      have y0 := cell_of hW (j := 0) rfl
      have y1 := cell_of hW (j := 1) rfl
      have y2 := cell_of hW (j := 2) rfl
      have y3 := cell_of hW (j := 3) rfl
      have y4 := cell_of hW (j := 4) rfl
      have y5 := cell_of hW (j := 5) rfl
      have y6 := cell_of hW (j := 6) rfl
      have y7 := cell_of hW (j := 7) rfl
      have y8 := cell_of hW (j := 8) rfl
      have y9 := cell_of hW (j := 9) rfl
      clear z0 z1 z2 z3 z4 z5 z6 z7 z8 z9 zf d0 d1 d2 d3 d4 d5 d6 d7 d8 d9
      refine bodyPost_ret (v := .agg #[.slice rA rn rc, .int .i64 (gl.kind : Int), .int .i64 (gl.line : Int), .slice lA ln lc, .int .u8 (gl.op.c.toNat : Int), .int .i64 (gl.op.n : Int), .int .i64 (gl.op.ind : Int), .string (bs gl.op.info), .bool gl.ended, .slice pA pn pc]) (by rw [results_cell1 rfl]; go_simp) rfl ?_
      have hfin := hfinA.out
      rw [hBB.out]
      exact ⟨R, rv, lv, pv, M, row, by rw [hrv.out, hlv.out, hpv.out], hrow.out, hfin, hres.out.1, hres.out.2, hBW⟩
end Go.Proofs.YtmbcddehacfpgaaGreatDoor

namespace Go.Proofs.YtmbcddehacfpgaaGreatDoor
open Go.RowKit
attribute [local go_sem] canOp readsAs readUpon

theorem final_tree {w : World} {B R : Nat} {E : Nat → Option Part} {rv lv pv : Value} {M : Mm} {x : MC} {l : Pb.Of} {ps : List Bk.Pl} (h : PAt w B E R rv lv pv M [x] l ps) :
    (∃ A n k, x.kv = .slice A n k) ∧ TC w (fun b => B ≤ b ∧ b < w.heap.size) x.c.tree [.int .i64 (x.c.kind : Int), .int .i64 0, .string ⟨#[]⟩, .string ⟨#[]⟩, .int .i64 (x.c.line : Int), x.kv] := by
  obtain ⟨M1, h1, h2, ⟨cs', h3, h3'⟩, h4⟩ := retire_itm (o := []) (x := x) (M := M) h.hp rfl (fun b => rfl) h.old (h.good x (by simp))
  have hk : gone (pparts E R rv lv pv M [x] l ps) M1 (.itm ([] : List MC).length) (.kid 0) = some (.row 37 6 x.kv x.c.all.length (x.css.flatten ++ lstCells x.lv x.c.lst)) := by
    rw [gone_ne (fun b e => by cases e) (by simp)]; rfl
  obtain ⟨kA, kc, hkv, hkc⟩ := own_shape (h4.own hk)
  rw [hkv, ← h3'] at hk
  obtain ⟨M2, g1, g2, g3, g4⟩ := retire (M := M1) h4 hk (fun b e => by cases e) (fun b => rfl) h2
  refine ⟨⟨kA, _, kc, hkv⟩, TM_TC (M := M2) (fun b cur t e => ?_) ?_⟩
  · have := g4.holds (.old b) _ e
    obtain ⟨f1, f2⟩ := this
    exact ⟨f2, f1, (Array.getElem?_eq_some_iff.1 f2).1⟩
  · rw [hkv]
    unfold Pb.Cn.tree TM
    exact ⟨kA, kc, cs', rfl, hkc, g3, TMs_mono g1 h3⟩
theorem one_row {row : List MC} {ls : List (List UInt8)} (h : row.map (·.c) = (Pb.read ls).row) (hl : (Pb.read ls).row.length = 1) : ∃ x, row = [x] ∧ x.c.tree = Pb.tree ls := by
  cases row with
  | nil => rw [← h] at hl; simp at hl
  | cons x t =>
    cases t with
    | cons y u => rw [← h] at hl; simp at hl
    | nil =>
      refine ⟨x, rfl, ?_⟩
      unfold Pb.tree
      rw [← h]; rfl
theorem lines_len : ∀ (ls : List (List UInt8)) (i : Nat) (r : Pb.Rd), Pb.Doc r.row → Pb.Doc (Pb.lines ls i r).row
  | [], _, _, h => h
  | s :: t, i, r, h => by
    refine lines_len t (i + 1) _ ?_
    unfold Pb.takeLine
    split
    · exact fenceLine_doc h
    · have hp := take_pos h s
      have hd := begin_doc i (41 - (Pb.take r.row.reverse s).1) (Pb.take r.row.reverse s).1 r (Pb.take r.row.reverse s).2 hp h
      have hk : ∀ (m k : Nat) (r : Pb.Rd) (s : List UInt8), 1 ≤ k → 1 ≤ (Pb.begin i m k r s).2.1 := by
        intro m
        induction m with
        | zero => intro k r s hk; exact hk
        | succ m ih =>
          intro k r s hk
          rw [Pb.begin]
          cases Bk.opener s with
          | none => exact hk
          | some oq => exact ih _ _ _ (by omega)
      refine leafLine_doc (hk _ _ _ _ hp) ?_ hd
      have := doc_ne hd
      exact List.length_pos_iff.2 this
theorem read_one (ls : List (List UInt8)) : (Pb.read ls).row.length = 1 := by
  have hd := lines_len ls 0 Pb.start (by unfold Pb.Doc; rfl)
  exact closeTo_len (Nat.le_refl _) (List.length_pos_iff.2 (doc_ne hd))

set_option maxHeartbeats 4000000 in
set_option maxRecDepth 100000 in
theorem pparse (l : List UInt8) (A : Option Addr) (c : Nat) (w : World) (hR : Row w w.heap.size 1 A l.length (bcells l)) (hlc : l.length ≤ c) (hl : l.length ≤ 1000000000000) :
    Calls Tryz.prog 11 #[.slice A l.length c] w fun e w' => ∃ cs, e = .returned (.agg cs.toArray) ∧ TC w' (fun b => w.heap.size ≤ b ∧ b < w'.heap.size) (Pb.tree (Pb.linesOf l)) cs ∧ Below w.heap.size w w' := by
  have hrd := fun w' h => pread l A c w' h hlc hl
  obtain ⟨T, hT⟩ : ∃ T, Pb.tree (Pb.linesOf l) = T := ⟨_, rfl⟩
  rw [hT]
  have hz0 : (w.alloc (.cells #[.int .i64 0, .int .i64 0, .string ⟨#[]⟩, .string ⟨#[]⟩, .int .i64 0, .slice none 0 0] 37)).heap.size = w.heap.size + 1 := by simp
  have hn0 := heap_alloc_new w (.cells #[.int .i64 0, .int .i64 0, .string ⟨#[]⟩, .string ⟨#[]⟩, .int .i64 0, .slice none 0 0] 37)
  have hb0 := ext_alloc w (.cells #[.int .i64 0, .int .i64 0, .string ⟨#[]⟩, .string ⟨#[]⟩, .int .i64 0, .slice none 0 0] 37)
  replace hR := Lib.hid hR
  obtain ⟨q, hq⟩ : ∃ q, w.heap.size = q := ⟨_, rfl⟩
  go_enter Tryz.func11, Tryz.ntmps11
  go_wp2_with fail
  generalize (w.alloc (.cells #[.int .i64 0, .int .i64 0, .string ⟨#[]⟩, .string ⟨#[]⟩, .int .i64 0, .slice none 0 0] 37)) = w0 at hz0 hn0 hb0 ⊢
  rw [hq] at hz0 hn0
  refine (hrd w0 (hR.out.ext hb0)).mono ?_
  rintro e w1 ⟨R, rv, lv, pv, M, row, rfl, hrow, hA, _, _, hb1⟩
  obtain ⟨x, rfl, hxt⟩ := one_row hrow (read_one _)
  rw [hT] at hxt
  obtain ⟨⟨kA, kn, kk, hkv⟩, htree⟩ := final_tree hA
  rw [hxt, hkv] at htree
  obtain ⟨g, gc, hrv, _, _, hgB, hgw, hgf, hgc⟩ := row_facts hA
  obtain ⟨lA, lc, hlv, _⟩ := own_shape (hA.hp.own (k := .lns) rfl)
  obtain ⟨pA, pc, hpv, _⟩ := own_shape (hA.hp.own (k := .pls) rfl)
  obtain ⟨gl, hgl⟩ : ∃ gl, (Pb.read (Pb.linesOf l)).leaf = gl := ⟨_, rfl⟩
  rw [hgl] at hlv ⊢
  obtain ⟨ln, hln⟩ : ∃ ln, gl.lines.length = ln := ⟨_, rfl⟩
  obtain ⟨pn, hpn⟩ : ∃ pn, (Pb.read (Pb.linesOf l)).places.length = pn := ⟨_, rfl⟩
  rw [hln] at hlv
  rw [hpn] at hpv
  rw [hrv, hlv, hpv]
  have k0 := hgc 0 _ rfl
  have k1 := hgc 1 _ rfl
  have k2 := hgc 2 _ rfl
  have k3 := hgc 3 _ rfl
  have k4 := hgc 4 _ rfl
  have k5 := hgc 5 _ rfl
  rw [hkv] at k5
  simp only [List.length_nil, Nat.zero_mul, Nat.zero_add] at k0 k1 k2 k3 k4 k5
  have hz1 := hb1.size
  have hqq := hq
  obtain ⟨xk, hxk⟩ : ∃ xk, x.c.kind = xk := ⟨_, rfl⟩
  obtain ⟨xl, hxl⟩ : ∃ xl, x.c.line = xl := ⟨_, rfl⟩
  rw [hxk] at k0 htree
  rw [hxl] at k4 htree
  have hnew := ext_alloc w1 (.cells (rdArr (.slice (some ⟨g, 0, none⟩) 1 gc) (.slice lA ln lc) (.slice pA pn pc) gl) 57)
  have hc0 := cell_of (heap_alloc_new w1 (.cells (rdArr (.slice (some ⟨g, 0, none⟩) 1 gc) (.slice lA ln lc) (.slice pA pn pc) gl) 57)) (j := 0) rfl
  have hz2 : (w1.alloc (.cells (rdArr (.slice (some ⟨g, 0, none⟩) 1 gc) (.slice lA ln lc) (.slice pA pn pc) gl) 57)).heap.size = w1.heap.size + 1 := by simp
  go_upto_region 2 with fail
  generalize w1.alloc (.cells (rdArr (.slice (some ⟨g, 0, none⟩) 1 gc) (.slice lA ln lc) (.slice pA pn pc) gl) 57) = w2 at hnew hc0 hz2 ⊢
  have hn2 := (hnew.block q (by omega)).trans ((hb1.block q (by omega)).trans hn0)
  have kq := fun j => hnew.cell (p := ⟨g, j, none⟩) hgw
  rw [← kq] at k0 k1 k2 k3 k4 k5
  have hT2 : TC w2 (fun b => q + 1 ≤ b ∧ b < w2.heap.size) T [.int .i64 (xk : Int), .int .i64 0, .string ⟨#[]⟩, .string ⟨#[]⟩, .int .i64 (xl : Int), .slice kA kn kk] := TC_frame (fun b hb => hnew.block b hb.2) (fun b hb => ⟨by have := hb.1; omega, by have := hb.2; omega⟩) htree
  have hb2 : Below w.heap.size w w2 := hb0.trans ((ext_trans hb1 hnew).mono (by omega))
  have z0 := cell_of hn2 (j := 0) rfl
  have z1 := cell_of hn2 (j := 1) rfl
  have z2 := cell_of hn2 (j := 2) rfl
  have z3 := cell_of hn2 (j := 3) rfl
  have z4 := cell_of hn2 (j := 4) rfl
  have z5 := cell_of hn2 (j := 5) rfl
  have zf := blk_free hn2
  have hW := wrote_at hn2 (.int .i64 (xk : Int)) (.int .i64 0) (.string ⟨#[]⟩) (.string ⟨#[]⟩) (.int .i64 (xl : Int)) (.slice kA kn kk)
  have hBq : ∀ q', w.heap.size = q' → Below w.heap.size w (wrote w2 q' (.int .i64 (xk : Int)) (.int .i64 0) (.string ⟨#[]⟩) (.string ⟨#[]⟩) (.int .i64 (xl : Int)) (.slice kA kn kk)) := fun q' e => by subst e; exact wrote_below hb2 _ _ _ _ _ _
  have hBW := hBq q hq
  have hTW : TC (wrote w2 q (.int .i64 (xk : Int)) (.int .i64 0) (.string ⟨#[]⟩) (.string ⟨#[]⟩) (.int .i64 (xl : Int)) (.slice kA kn kk)) (fun b => q ≤ b ∧ b < (wrote w2 q (.int .i64 (xk : Int)) (.int .i64 0) (.string ⟨#[]⟩) (.string ⟨#[]⟩) (.int .i64 (xl : Int)) (.slice kA kn kk)).heap.size) T [.int .i64 (xk : Int), .int .i64 0, .string ⟨#[]⟩, .string ⟨#[]⟩, .int .i64 (xl : Int), .slice kA kn kk] := TC_frame (fun b hb => wrote_block w2 (by have := hb.1; omega) _ _ _ _ _ _) (fun b hb => ⟨by have := hb.1; omega, by rw [wrote_size]; exact hb.2⟩) hT2
  replace hA := Lib.hid hA
  replace htree := Lib.hid htree
  replace hT2 := Lib.hid hT2
  replace hn2 := Lib.hid hn2
  replace hrow := Lib.hid hrow
  replace hW := Lib.hid hW
  replace hBW := Lib.hid hBW
  replace hTW := Lib.hid hTW
  replace hq := Lib.hid hq
  clear hgc hgf hrd hxt hkv hrv hlv hpv hn0 hln hpn hgl hT hBq kq hqq hb2
  go_wp2_with fail
  change bodyPost _ _ _ _ _ (wrote w2 q (.int .i64 (xk : Int)) (.int .i64 0) (.string ⟨#[]⟩) (.string ⟨#[]⟩) (.int .i64 (xl : Int)) (.slice kA kn kk))
  generalize wrote w2 q (.int .i64 (xk : Int)) (.int .i64 0) (.string ⟨#[]⟩) (.string ⟨#[]⟩) (.int .i64 (xl : Int)) (.slice kA kn kk) = wz at hW hBW hTW ⊢
  have y0 := cell_of hW.out (j := 0) rfl
  have y1 := cell_of hW.out (j := 1) rfl
  have y2 := cell_of hW.out (j := 2) rfl
  have y3 := cell_of hW.out (j := 3) rfl
  have y4 := cell_of hW.out (j := 4) rfl
  have y5 := cell_of hW.out (j := 5) rfl
  clear z0 z1 z2 z3 z4 z5 zf k0 k1 k2 k3 k4 k5 hc0
  rw [← hq.out] at hTW
  exact bodyPost_ret (v := .agg #[.int .i64 (xk : Int), .int .i64 0, .string ⟨#[]⟩, .string ⟨#[]⟩, .int .i64 (xl : Int), .slice kA kn kk]) (by rw [results_cell1 rfl]; go_simp) rfl ⟨[.int .i64 (xk : Int), .int .i64 0, .string ⟨#[]⟩, .string ⟨#[]⟩, .int .i64 (xl : Int), .slice kA kn kk], rfl, hTW.out, hBW.out⟩
end Go.Proofs.YtmbcddehacfpgaaGreatDoor

namespace Go.Proofs.YtmbcddehacfpgaaGreatDoor
open Go.RowKit
attribute [local go_sem] canOp readsAs readUpon

set_option maxHeartbeats 2000000 in
set_option maxRecDepth 100000 in
theorem pfences (l : List UInt8) (A : Option Addr) (c : Nat) (w : World) (hR : Row w w.heap.size 1 A l.length (bcells l)) (hlc : l.length ≤ c) (hl : l.length ≤ 1000000000000) :
    Calls Tryz.prog 13 #[.slice A l.length c] w fun e w' => ∃ v, e = .returned v ∧ w'.ownsRow w.heap.size 46 8 v (Pb.read (Pb.linesOf l)).places.length (plcCells (Pb.read (Pb.linesOf l)).places) ∧ Below w.heap.size w w' := by
  have hrd := pread l A c w hR hlc hl
  obtain ⟨G, hG⟩ : ∃ G, Pb.read (Pb.linesOf l) = G := ⟨_, rfl⟩
  rw [hG] at hrd ⊢
  clear hG
  go_enter Tryz.func13, Tryz.ntmps13
  go_wp2_with fail
  refine hrd.mono ?_
  rintro e w1 ⟨R, rv, lv, pv, M, row, rfl, hrow, hA, _, _, hb1⟩
  have hop := hA.hp.own (k := .pls) rfl
  have hnew := ext_alloc w1 (.cells (rdArr rv lv pv G.leaf) 57)
  have hopf := Lib.hid (own_base (own_below hop hnew) (by omega : w.heap.size ≤ w.heap.size + 1))
  have hBf := Lib.hid (ext_trans hb1 hnew)
  obtain ⟨gl, hgl⟩ : ∃ gl, G.leaf = gl := ⟨_, rfl⟩
  obtain ⟨rA, rc, hrv, _⟩ := own_shape (hA.hp.own (k := .row) rfl)
  obtain ⟨lA, lc, hlv, _⟩ := own_shape (hA.hp.own (k := .lns) rfl)
  obtain ⟨pA, pc, hpv, _⟩ := own_shape hop
  obtain ⟨rn, hrn⟩ : ∃ rn, row.length = rn := ⟨_, rfl⟩
  obtain ⟨ln, hln⟩ : ∃ ln, G.leaf.lines.length = ln := ⟨_, rfl⟩
  obtain ⟨pn, hpn⟩ : ∃ pn, G.places.length = pn := ⟨_, rfl⟩
  rw [hrn] at hrv
  rw [hln] at hlv
  rw [hpn] at hpv
  rw [hgl] at hopf hBf ⊢
  rw [hrv, hlv, hpv] at hopf hBf ⊢
  replace hA := Lib.hid hA
  replace hop := Lib.hid hop
  clear hrn hln hpn hrv hlv hpv hnew
  go_wp2_with fail
  go_ret
  exact ⟨_, rfl, hopf.out, hBf.out⟩
end Go.Proofs.YtmbcddehacfpgaaGreatDoor

namespace Go.Proofs.YtmbcddehacfpgaaGreatDoor
open Go.RowKit
attribute [local go_sem] canOp readsAs readUpon

/-- a document's lines, as they are read: no more than 65536 bytes -/
def Bk.linesOf (l : List UInt8) : List (List UInt8) := (Ln.texts (l.take 65536) 0).map Ru.text
theorem line_len {l : List UInt8} {k : Nat} : ∀ s ∈ Ln.texts l k, s.length ≤ l.length := by
  intro s hs
  unfold Ln.texts at hs
  obtain ⟨x, hx, rfl⟩ := List.mem_map.1 hs
  have := Ln.lines_within l k x hx
  rw [mid_len (by omega)]
  omega

theorem lines_at {ts : List (List UInt8)} {k : Nat} (h : k < ts.length) (st : Bk.St) : Bk.lines ((ts.drop k).map Ru.text) k st = Bk.lines ((ts.drop (k + 1)).map Ru.text) (k + 1) (Bk.text (Ru.text ts[k]) { st with line := k }) := by
  rw [List.drop_eq_getElem_cons h, List.map_cons, Bk.lines]
theorem lines_end {ts : List (List UInt8)} {k : Nat} (h : ¬ k < ts.length) (st : Bk.St) : Bk.lines ((ts.drop k).map Ru.text) k st = st := by
  rw [List.drop_eq_nil_of_le (by omega)]; rfl
theorem plCells_last (r : List Bk.Pl) (p : Bk.Pl) : (plCells (r ++ [p]))[r.length * 8 + 7]? = some (.bool p.closed) ∧ ∃ v, (plCells (r ++ [p]))[r.length * 8 + 6]? = some v := by
  have hl := plCells_len r
  rw [plCells_append, List.getElem?_append_right (by omega), List.getElem?_append_right (by omega), hl, show r.length * 8 + 7 - r.length * 8 = 7 from by omega, show r.length * 8 + 6 - r.length * 8 = 6 from by omega]
  exact ⟨rfl, _, rfl⟩
/-- the last place's end -/
theorem last_done {E : Nat → Option Part} {P : Nat} {A : Nat → Nat} {KV : Nat → Value} {ov : Value} {st : Bk.St} {w : World} {B g c : Nat} {r : List Bk.Pl} {p : Bk.Pl} (hr : st.places = r ++ [p]) (hp : p.closed = false)
    (h : Hp w B (parts E P A KV ov (.slice (some ⟨g, 0, none⟩) (r.length + 1) c) st)) (ln : Nat) :
    Hp (w.setCell ⟨g, r.length * 8 + 6, none⟩ (.int .i64 (ln : Int))) B (parts E P A KV ov (.slice (some ⟨g, 0, none⟩) (r.length + 1) c) { st with places := Bk.closeLast ln false st.places }) := by
  have hn : st.places.length = r.length + 1 := by rw [hr]; simp
  have h0 := h.own (k := .pls) rfl
  rw [hn] at h0
  have h1 := (World.ownsRow.stored h0 (r.length * 8 + 6) (.int .i64 (ln : Int))).1
  have m1 := h.uput (k := .pls) (.row 49 8 (.slice (some ⟨g, 0, none⟩) (r.length + 1) c) (r.length + 1) _) rfl (grown_set w ⟨g, r.length * 8 + 6, none⟩ (.int .i64 (ln : Int))) h1 (fun _ h => .inl h)
  have hset : ((plCells (r ++ [p])).set (r.length * 8 + 6) (.int .i64 (ln : Int))).set (r.length * 8 + 7) (.bool false) = (plCells (r ++ [p])).set (r.length * 8 + 6) (.int .i64 (ln : Int)) := by
    refine List.ext_getElem? fun n => ?_
    by_cases hn : r.length * 8 + 7 = n
    · subst hn
      have := (plCells_last r p).1
      rw [hp] at this
      rw [List.getElem?_set_self (by rw [List.length_set]; exact (List.getElem?_eq_some_iff.1 this).1), List.getElem?_set_ne (by omega), this]
    · rw [List.getElem?_set_ne hn]
  refine m1.same fun k => ?_
  cases k with
  | pls =>
    simp only [parts]
    rw [hr, plCells_close, hset, closeLast_snoc]
    simp [upd]
  | _ => rfl
/-- at first -/
theorem start_parts (w : World) : Hp ((w.alloc (.cells #[.int .i64 0, .int .i64 0, .string ⟨#[]⟩, .string ⟨#[]⟩, .int .i64 0, .slice none 0 0, .int .u8 0, .slice none 0 0] 75)).alloc
      (.cells #[.pointer (some ⟨w.heap.size, 0, none⟩), .slice none 0 0, .pointer none, .pointer none, .int .u8 0, .int .i64 0, .int .i64 0, .string ⟨#[]⟩, .int .i64 0, .slice none 0 0] 64)) w.heap.size
    (parts (fun _ => none) (w.heap.size + 1) (fun _ => w.heap.size) (fun _ => .slice none 0 0) (.slice none 0 0) (.slice none 0 0) Bk.start) := by
  have h1 := blk_one w (.cells #[.int .i64 0, .int .i64 0, .string ⟨#[]⟩, .string ⟨#[]⟩, .int .i64 0, .slice none 0 0, .int .u8 0, .slice none 0 0] 75) (.cells #[.pointer (some ⟨w.heap.size, 0, none⟩), .slice none 0 0, .pointer none, .pointer none, .int .u8 0, .int .i64 0, .int .i64 0, .string ⟨#[]⟩, .int .i64 0, .slice none 0 0] 64)
  have h2 := blk_two w (.cells #[.int .i64 0, .int .i64 0, .string ⟨#[]⟩, .string ⟨#[]⟩, .int .i64 0, .slice none 0 0, .int .u8 0, .slice none 0 0] 75) (.cells #[.pointer (some ⟨w.heap.size, 0, none⟩), .slice none 0 0, .pointer none, .pointer none, .int .u8 0, .int .i64 0, .int .i64 0, .string ⟨#[]⟩, .int .i64 0, .slice none 0 0] 64)
  constructor
  · intro k a hk
    cases k with
    | par => cases hk; exact ⟨by omega, h2⟩
    | opn => cases hk; exact World.ownsRow_nil _ _ _ _
    | pls => cases hk; exact World.ownsRow_nil _ _ _ _
    | node i => rcases i with _ | i
                · cases hk; exact ⟨Nat.le_refl _, h1⟩
                · cases hk
    | kid i => rcases i with _ | i
               · cases hk; exact World.ownsRow_nil _ _ _ _
               · cases hk
    | ext i => cases hk
  · intro k k' a a' g hk hk' ha ha'
    cases k with
    | par =>
      cases hk; cases ha
      cases k' with
      | par => rfl
      | opn => cases hk'; cases ha'
      | pls => cases hk'; cases ha'
      | node i => rcases i with _ | i
                  · cases hk'
                    have : w.heap.size = w.heap.size + 1 := Option.some.inj ha'
                    omega
                  · cases hk'
      | kid i => rcases i with _ | i
                 · cases hk'; cases ha'
                 · cases hk'
      | ext i => cases hk'
    | opn => cases hk; cases ha
    | pls => cases hk; cases ha
    | node i =>
      rcases i with _ | i
      · cases hk; cases ha
        cases k' with
        | par => cases hk'
                 have : w.heap.size + 1 = w.heap.size := Option.some.inj ha'
                 omega
        | opn => cases hk'; cases ha'
        | pls => cases hk'; cases ha'
        | node i => rcases i with _ | i
                    · rfl
                    · cases hk'
        | kid i => rcases i with _ | i
                   · cases hk'; cases ha'
                   · cases hk'
        | ext i => cases hk'
      · cases hk
    | kid i => rcases i with _ | i
               · cases hk; cases ha
               · cases hk
    | ext i => cases hk

/-- what the parser points at, behind all lines -/
def ParsedAt (B : Nat) (ls : List (List UInt8)) (w : World) (v : Value) : Prop := ∃ P E A KV ov pv, v = ptr P ∧ Hp w B (parts E P A KV ov pv { Bk.run ls with places := Bk.places ls ls.length }) ∧ Bk.Ok (Bk.run ls)

set_option maxHeartbeats 2000000 in
set_option maxRecDepth 100000 in
theorem rparsed_any (l : List UInt8) (A : Option Addr) (c : Nat) (w : World) (hR : Row w w.heap.size 1 A l.length (bcells l)) (hlc : l.length ≤ c) (hl : l.length ≤ 1000000000000) :
    Calls Tryz.prog 19 #[.slice A l.length c] w fun e w' => ∃ v, e = .returned v ∧ ParsedAt w.heap.size (Bk.linesOf l) w' v ∧ Below w.heap.size w w' := by
  obtain ⟨m, hm⟩ : ∃ m, (l.take 65536).length = m := ⟨_, rfl⟩
  have hml : m ≤ 65536 ∧ m ≤ l.length := by rw [← hm, List.length_take]; omega
  have hmin : (if (65536 : Int) < (l.length : Int) then (65536 : Int) else (l.length : Int)) = (m : Int) ∧ min (l.length : Int) 65536 = (m : Int) := by
    rw [List.length_take] at hm
    refine ⟨?_, by omega⟩
    split <;> omega
  have hR2 : Row w w.heap.size 1 A m (bcells (l.take 65536)) := by
    have := hR.take hml.2
    rw [Nat.mul_one] at this
    have e : (bcells l).take m = bcells (l.take 65536) := by
      unfold bcells
      rw [← List.map_take]
      congr 1
      rw [← hm, List.length_take]
      rcases Nat.le_total 65536 l.length with h | h
      · rw [Nat.min_eq_left h]
      · rw [Nat.min_eq_right h, List.take_of_length_le (Nat.le_refl _), List.take_of_length_le h]
    rwa [e] at this
  have htx := fun w' h => rtexts_any (l.take 65536) A c w' h (by rw [hm]; omega) (by rw [hm]; omega)
  have hlo : Bk.linesOf l = (Ln.texts (l.take 65536) 0).map Ru.text := rfl
  have hll := @line_len (l.take 65536) 0
  have htn := Ln.texts_len (l.take 65536) 0
  rw [hm] at htx hll htn
  obtain ⟨ts, hts⟩ : ∃ ts, Ln.texts (l.take 65536) 0 = ts := ⟨_, rfl⟩
  rw [hts] at htx hlo hll htn
  rw [hlo]
  have hcs : (l.length : Int) ≤ (c : Int) := by omega
  have hmc : (m : Int) ≤ (c : Int) := by omega
  obtain ⟨hmin1, hmin2⟩ := hmin
  replace hR := Lib.hid hR
  clear hlo
  go_enter Tryz.func19, Tryz.ntmps19
  go_wp2_with fail
  have H0 := start_parts w
  have hb0 : Below w.heap.size w ((w.alloc (.cells #[.int .i64 0, .int .i64 0, .string ⟨#[]⟩, .string ⟨#[]⟩, .int .i64 0, .slice none 0 0, .int .u8 0, .slice none 0 0] 75)).alloc
      (.cells #[.pointer (some ⟨w.heap.size, 0, none⟩), .slice none 0 0, .pointer none, .pointer none, .int .u8 0, .int .i64 0, .int .i64 0, .string ⟨#[]⟩, .int .i64 0, .slice none 0 0] 64)) := (ext_alloc w _).alloc (by simp) _
  have hz0 := hb0.size
  generalize ((w.alloc (.cells #[.int .i64 0, .int .i64 0, .string ⟨#[]⟩, .string ⟨#[]⟩, .int .i64 0, .slice none 0 0, .int .u8 0, .slice none 0 0] 75)).alloc
      (.cells #[.pointer (some ⟨w.heap.size, 0, none⟩), .slice none 0 0, .pointer none, .pointer none, .int .u8 0, .int .i64 0, .int .i64 0, .string ⟨#[]⟩, .int .i64 0, .slice none 0 0] 64)) = w0 at H0 hb0 hz0 ⊢
  refine (htx w0 (hR2.ext hb0)).mono ?_
  rintro e w1 ⟨v, rfl, hown, hb1⟩
  have H1 := ext_in (a := .row 9 1 v ts.length (scells ts)) H0 hb1 (own_base hown hz0) (fun g hg => (World.ownsRow.lt hown g hg).1)
  have hB1 := ext_trans hb0 hb1
  obtain ⟨E, hE⟩ : ∃ E, shiftE (.row 9 1 v ts.length (scells ts)) (fun _ => none) = E := ⟨_, rfl⟩
  have hE0 : E 0 = some (.row 9 1 v ts.length (scells ts)) := by rw [← hE]; rfl
  rw [hE] at H1
  obtain ⟨vA, vc, rfl, hvc⟩ := own_shape hown
  obtain ⟨P, hP⟩ : ∃ P, w.heap.size + 1 = P := ⟨_, rfl⟩
  rw [hP] at H1 ⊢
  obtain ⟨B, hBB⟩ : ∃ B, w.heap.size = B := ⟨_, rfl⟩
  rw [hBB] at H1 hB1 ⊢
  replace H1 := Lib.hid H1
  replace hB1 := Lib.hid hB1
  replace hE0 := Lib.hid hE0
  replace hR2 := Lib.hid hR2
  clear hE hown hb1 hb0 hz0 H0 hP htx
  obtain ⟨G, hG⟩ : ∃ G, Bk.run (ts.map Ru.text) = G := ⟨_, rfl⟩
  have hG0 : Bk.lines ((ts.drop 0).map Ru.text) 0 Bk.start = G := by rw [← hG]; rfl
  replace hG := Lib.hid hG
  go_wp2_with fail
  go_loopw [18] (fun u wr => ∃ (k : Nat) (A' : Nat → Nat) (KV : Nat → Value) (ov pv : Value) (st : Bk.St), k ≤ ts.length ∧ u = .int .i64 (k : Int) ∧ Hid (Hp wr B (parts E P A' KV ov pv st)) ∧ Hid (Bk.Fit k st) ∧ Hid (Bk.lines ((ts.drop k).map Ru.text) k st = G) ∧ Hid (Below B w wr)) (fun u _ => ts.length - (intOf u).toNat)
  case atStart => exact ⟨0, _, _, _, _, _, by omega, rfl, H1, Lib.hid fit_start, Lib.hid hG0, hB1⟩
  case round =>
    obtain ⟨k, A', KV, ov, pv, st, hk, rfl, H, hfit, hgl, hb⟩ := hrel
    obtain ⟨hP1, hP2, hPf, _, _, _, _, _, _, _, _, hd8, hd9⟩ := par_facts H.out
    rcases Nat.lt_or_eq_of_le hk with hlt | rfl
    · have hrow := H.out.own (k := .ext 0) hE0.out
      obtain ⟨g, rfl⟩ : ∃ g, vA = some ⟨g, 0, none⟩ := by
        rcases hrow.2 with ⟨hv, hn⟩ | ⟨g, cap, cur, hv, _⟩
        · omega
        · cases hv; exact ⟨g, rfl⟩
      obtain ⟨s, hs⟩ : ∃ s, ts[k] = s := ⟨_, rfl⟩
      have hx := own_cell (j := k) (u := .string (bs s)) hrow (by unfold scells; rw [List.getElem?_map, List.getElem?_eq_getElem hlt, hs]; rfl)
      have hgr : g < wr.heap.size := (World.ownsRow.lt hrow g rfl).2
      have hsl := hll s (by rw [← hs]; exact List.getElem_mem hlt)
      have hst := lines_at hlt st
      rw [hs, hgl.out] at hst
      have hrb := run_bytes s
      have H2 := set_line H.out k
      have hfl := hfit.out.line k
      have hB2 : Below B w (wr.setCell ⟨P, 8, none⟩ (.int .i64 (k : Int))) := hb.out.setCell (p := ⟨P, 8, none⟩) hP1 _
      have hfs := fit_step hfl (by omega) (Ru.text s) (by have := Ru.text_len s; omega)
      have htl := Ru.text_len s
      have hln := fun w h => rtextl_any E P A' KV ov pv { st with line := k } w B h (hfl.fits (by omega) (by simp only; omega)) (Ru.text s) (by omega) (by have := hfl.nodes; simp only at this ⊢; omega) hfl.top
      have hsz : (wr.setCell ⟨P, 8, none⟩ (.int .i64 (k : Int))).heap.size = wr.heap.size := by simp [World.setCell]
      have htt := rtext_any s (some ⟨(wr.setCell ⟨P, 8, none⟩ (.int .i64 (k : Int))).heap.size, 0, none⟩) (grownCap (wr.setCell ⟨P, 8, none⟩ (.int .i64 (k : Int))) s.length 0 5) (Lib.bytesWorld (wr.setCell ⟨P, 8, none⟩ (.int .i64 (k : Int))) 5 (bs s)) (row_bytes _ s) (by omega)
      rw [hsz] at htt
      have hbb := below_bytes (wr.setCell ⟨P, 8, none⟩ (.int .i64 (k : Int))) (bs s)
      have hbz : B ≤ (wr.setCell ⟨P, 8, none⟩ (.int .i64 (k : Int))).heap.size := by rw [hsz]; omega
      replace hsz := Lib.hid hsz
      replace hbb := Lib.hid hbb
      replace hrb := Lib.hid hrb
      replace hs := Lib.hid hs
      replace H2 := Lib.hid H2
      replace hB2 := Lib.hid hB2
      replace hst := Lib.hid hst
      replace hfs := Lib.hid hfs
      replace hfl := Lib.hid hfl
      replace hrow := Lib.hid hrow
      have hcv := hrb.out
      go_wp2_with fail
      refine htt.mono ?_
      rintro e w3 ⟨rfl, hb3⟩
      have hb23 := ext_trans hbb.out hb3
      have H3 := H2.out.ext hb23
      have hB3 := hB2.out.trans (hb23.mono hbz)
      replace H3 := Lib.hid H3
      replace hB3 := Lib.hid hB3
      replace hb23 := Lib.hid hb23
      replace hb3 := Lib.hid hb3
      clear hcv htt hbz
      go_wp2_with fail
      refine (hln _ H3.out).mono ?_
      rintro e w4 ⟨rfl, ⟨A4, K4, o4, p4, H4⟩, hb4⟩
      replace H4 := Lib.hid H4
      replace hb4 := Lib.hid (hB3.out.trans hb4)
      go_wp2_with fail
      go_roundw
      case rel => exact ⟨k + 1, A4, K4, o4, p4, _, by omega, by go_num, H4, hfs, Lib.hid hst.out.symm, hb4⟩
      case measure => simp [intOf]; omega
    · have hGs : st = G := by rw [← lines_end (Nat.lt_irrefl _) st]; exact hgl.out
      subst hGs
      have hop := H.out.own (k := .pls) rfl
      obtain ⟨Ap, cp, hpv, hlp⟩ := own_shape hop
      have hnp := hfit.out.pls
      have hns : (ts.map Ru.text).length = ts.length := List.length_map _
      have hpl9 : Bk.places (ts.map Ru.text) (ts.map Ru.text).length = match st.places.getLast? with
        | none => st.places
        | some p => if p.closed = true then st.places else Bk.closeLast ts.length false st.places := by unfold Bk.places; rw [hG.out, hns]; rfl
      obtain ⟨PL, hPL⟩ : ∃ PL, Bk.places (ts.map Ru.text) (ts.map Ru.text).length = PL := ⟨_, rfl⟩
      rw [hPL] at hpl9
      have hokG := hfit.out.ok
      have hfinish : ∀ (wx : World) (p' : Value), Hp wx B (parts E P A' KV ov p' { st with places := PL }) → Hp wx B (parts E P A' KV ov p' { Bk.run (ts.map Ru.text) with places := Bk.places (ts.map Ru.text) (ts.map Ru.text).length }) := by
        intro wx p' hx
        rw [hG.out, hPL]; exact hx
      have hokF : Bk.Ok (Bk.run (ts.map Ru.text)) := by rw [hG.out]; exact hokG
      replace hPL := Lib.hid hPL
      replace hfinish := Lib.hid hfinish
      rcases List.eq_nil_or_concat st.places with h0 | ⟨r, p, h0⟩
      · rw [h0] at hpl9 hpv hop
        have hsame : ({ st with places := PL } : Bk.St) = st := by
          have e : PL = st.places := by rw [h0]; exact hpl9
          rw [e]
        rw [hpv] at hd9
        rw [List.length_nil] at hd9
        replace hsame := Lib.hid hsame
        clear hpl9 h0 hop hlp
        go_wp2_with fail
        go_returns
        have hres := hfinish.out wr pv (by rw [hsame.out]; exact H.out)
        exact ⟨_, rfl, ⟨_, _, _, _, _, _, rfl, hres, hokF⟩, hb.out⟩
      · rw [List.concat_eq_append] at h0
        have hn : st.places.length = r.length + 1 := by rw [h0]; simp
        rw [hn] at hpv hop hnp
        rw [h0, List.getLast?_concat] at hpl9
        simp only at hpl9
        subst hpv
        obtain ⟨g, rfl⟩ : ∃ g, Ap = some ⟨g, 0, none⟩ := by
          rcases hop.2 with ⟨hv, hn⟩ | ⟨g, cap, cur, hv, _⟩
          · omega
          · cases hv; exact ⟨g, rfl⟩
        have hfrg := World.ownsRow.frozenAt hop
        have hgB := (World.ownsRow.lt hop g rfl).1
        obtain ⟨h7, v6, h6⟩ := plCells_last r p
        rw [h0] at hop
        have hc7 := own_cell hop h7
        have hc6 := own_cell hop h6
        obtain ⟨n, hnn⟩ : ∃ n, r.length = n := ⟨_, rfl⟩
        have hld := fun w9 hp hh ln => @last_done E P A' KV ov st w9 B g cp r p h0 hp hh ln
        rw [hnn] at hd9 hc7 hc6 hnp hld
        cases hpc : p.closed with
        | true =>
          rw [hpc] at hc7 hpl9
          rw [if_pos rfl] at hpl9
          have hsame : ({ st with places := PL } : Bk.St) = st := by
            have e : PL = st.places := by rw [h0]; exact hpl9
            rw [e]
          replace hsame := Lib.hid hsame
          replace hop := Lib.hid hop
          clear hpl9 h0 h7 h6 hld hnn hpc hn
          go_wp2_with fail
          go_returns
          have hres := hfinish.out wr _ (by rw [hsame.out]; exact H.out)
          exact ⟨_, rfl, ⟨_, _, _, _, _, _, rfl, hres, hokF⟩, hb.out⟩
        | false =>
          rw [hpc] at hc7 hpl9
          rw [if_neg (by simp)] at hpl9
          have hPg : P ≠ g := fun e => by have := H.out.apart .par .pls _ _ P rfl rfl rfl (by rw [e]; rfl); cases this
          have hgw : g < wr.heap.size := (World.ownsRow.lt hop g rfl).2
          have hspl := fun w' h => rsplit_any (l.take 65536) A c w' h (by rw [hm]; omega)
          rw [hm] at hspl
          have hnl : (Ln.lines (l.take 65536) 0).length = ts.length := by rw [← hts]; simp [Ln.texts]
          rw [hnl] at hspl
          have hRz : Row wr.drew wr.drew.heap.size 1 A m (bcells (l.take 65536)) := hR2.out.ext (by rw [hBB]; exact hb.out.trans (Below.refl B wr).drew)
          have hS0 : wr.drew.cell? ⟨P, 9, none⟩ = some (.slice (some ⟨g, 0, none⟩) (n + 1) cp) := hd9
          have hwm : IntKind.i64.wrap (n : Int) = (n : Int) := by unfold IntKind.wrap; simp [IntKind.bits, IntKind.signed]; omega
          have hn0 : (0 : Int) ≤ (n : Int) := by omega
          have hn1 : (n : Int) < (n : Int) + 1 := by omega
          have hwz : wr.drew.heap.size = wr.heap.size := rfl
          have hdH := H.out.drew
          rw [hnn] at hdH
          have hst6 := fun w9 hh => hld w9 hpc hh ts.length
          rw [← h0] at hpl9
          rw [← hpl9] at hst6
          replace hst6 := Lib.hid hst6
          replace hdH := Lib.hid hdH
          replace hRz := Lib.hid hRz
          replace hspl := Lib.hid hspl
          replace hop := Lib.hid hop
          replace hwz := Lib.hid hwz
          clear hpl9 h0 h7 h6 hld hnn hpc hn hnl hts
          go_wp2_with fail
          refine wp_region_can [(true, 0), (true, 1), (true, 2), (true, 3), (true, 4), (true, 5), (true, 6), (true, 7), (true, 8), (false, 9), (true, 10), (false, 11), (true, 12), (true, 13), (true, 14), (false, 15)] (fun u => u.cell? ⟨P, 9, none⟩ = some (.slice (some ⟨g, 0, none⟩) (n + 1) cp)) hS0 (by kernel_rfl) (by kernel_rfl) (by kernel_rfl) (fun _ _ d _ _ h => by cases d <;> exact h) ?_
          repeat (first | refine wpCan_move rfl ?_ | (refine wpCan_cons rfl ?_; intro K hK; go_simp; refine hK _ _ _ ?_; clear hK K))
          refine wpCan_read (.slice (some ⟨g, 0, none⟩) (n + 1) cp) rfl rfl hS0 (fun u hu => by go_simp) ?_
          repeat (first | refine wpCan_move rfl ?_ | (refine wpCan_cons rfl ?_; intro K hK; go_simp; refine hK _ _ _ ?_; clear hK K))
          refine wpCan_cons rfl ?_
          intro K hK
          go_simp
          refine can_same hS0 (hK _ _ _ ?_)
          clear hK K
          repeat (first | refine wpCan_move rfl ?_ | (refine wpCan_cons rfl ?_; intro K hK; go_simp; refine hK _ _ _ ?_; clear hK K))
          refine wpCan_cons rfl ?_
          intro K hK
          go_simp
          refine (hspl.out _ hRz.out).mono ?_
          rintro e w3 ⟨v3, rfl, hown3, hb3⟩
          obtain ⟨A3, c3, rfl, hlc3⟩ := own_shape hown3
          have hP9 : w3.cell? ⟨P, 9, none⟩ = some (.slice (some ⟨g, 0, none⟩) (n + 1) cp) := (World.cell?_of_block (hb3.block _ (by rw [hwz.out]; exact hP2))).trans hS0
          have hg6 : w3.cell? ⟨g, n * 8 + 6, none⟩ = some v6 := (World.cell?_of_block (hb3.block _ (by rw [hwz.out]; exact hgw))).trans hc6
          have hgf : ∀ j, w3.frozen? ⟨g, j, none⟩ = false := fun j => (World.frozen?_of_block (hb3.block _ (by rw [hwz.out]; exact hgw))).trans (hfrg j)
          have hH3 := hdH.out.ext hb3
          have hfin3 := hst6.out w3 hH3
          have hB3 : Below B w w3 := (hb.out.trans (Below.refl B wr).drew).trans (hb3.mono (by rw [hwz.out]; omega))
          have hS3 : (w3.setCell ⟨g, n * 8 + 6, none⟩ (.int .i64 (ts.length : Int))).cell? ⟨P, 9, none⟩ = some (.slice (some ⟨g, 0, none⟩) (n + 1) cp) := by rw [World.cell?_setCell_other _ _ _ _ (fun e => hPg (congrArg Addr.block e).symm)]; exact hP9
          replace hown3 := Lib.hid hown3
          replace hb3 := Lib.hid hb3
          replace hH3 := Lib.hid hH3
          replace hfin3 := Lib.hid hfin3
          replace hB3 := Lib.hid hB3
          refine can_same hP9 (hK _ _ _ ?_)
          clear hK K
          repeat (first | refine wpCan_move rfl ?_ | (refine wpCan_cons rfl ?_; intro K hK; go_simp; refine hK _ _ _ ?_; clear hK K))
          refine wpCan_cons rfl ?_
          intro K hK
          go_simp
          refine can_same hS3 (hK _ _ _ ?_)
          clear hK K
          refine wpCan_nil ?_
          go_wp2_with fail
          go_returns
          have hres := hfinish.out _ _ hfin3.out
          subst hBB
          exact ⟨_, rfl, ⟨_, _, _, _, _, _, rfl, hres, hokF⟩, hB3.out.setCell (p := ⟨g, n * 8 + 6, none⟩) hgB _⟩
end Go.Proofs.YtmbcddehacfpgaaGreatDoor

namespace Go.Proofs.YtmbcddehacfpgaaGreatDoor
open Go.RowKit

/-- a document's tree -/
def Bk.treeOf (l : List UInt8) : Bk.Tree := Bk.treeT (Bk.run (Bk.linesOf l)).ns 0
/-- a document's fences that are in no container -/
def Bk.fencesOf (l : List UInt8) : List Bk.Pl := Bk.places (Bk.linesOf l) (Bk.linesOf l).length

set_option maxHeartbeats 2000000 in
set_option maxRecDepth 100000 in
theorem rfences_any (l : List UInt8) (A : Option Addr) (c : Nat) (w : World) (hR : Row w w.heap.size 1 A l.length (bcells l)) (hlc : l.length ≤ c) (hl : l.length ≤ 1000000000000) :
    Calls Tryz.prog 14 #[.slice A l.length c] w fun e w' => ∃ v, e = .returned v ∧ w'.ownsRow w.heap.size 49 8 v (Bk.fencesOf l).length (plCells (Bk.fencesOf l)) ∧ Below w.heap.size w w' := by
  have hrun := rparsed_any l A c w hR hlc hl
  have hfo : Bk.fencesOf l = Bk.places (Bk.linesOf l) (Bk.linesOf l).length := rfl
  rw [hfo]
  clear hfo
  go_enter Tryz.func14, Tryz.ntmps14
  go_wp2_with fail
  refine hrun.mono ?_
  rintro e w1 ⟨v, rfl, ⟨P, E, A', KV, ov, pv, rfl, H, _⟩, hb⟩
  obtain ⟨_, hP2, _, _, _, _, _, _, _, _, _, _, hd9⟩ := par_facts H
  have hop := H.own (k := .pls) rfl
  obtain ⟨Ap, cp, hpv, _⟩ := own_shape hop
  simp only at hop
  replace hop := Lib.hid hop
  replace H := Lib.hid H
  replace hpv := Lib.hid hpv
  go_wp2_with fail
  go_ret
  exact ⟨_, rfl, hop.out, hb⟩

theorem treeT_few {st : Bk.St} (hok : Bk.Ok st) : ∀ (n i : Nat) (_ : i < st.ns.length) (_ : st.ns.length - i ≤ n), Bk.Few (Bk.treeT st.ns i)
  | 0, i, hi, hn => by omega
  | n + 1, i, hi, hn => by
    rw [treeT_at hok.root hi]
    refine .mk ?_ ?_
    · rw [List.length_map]
      have := Bk.kids_len st.ns i
      have := hok.small
      omega
    · intro t ht
      obtain ⟨k, hk, rfl⟩ := List.mem_map.1 ht
      have h1 := kids_gt hok.root hi hk
      have h2 := Bk.kids_lt hk
      exact treeT_few hok n k h2 (by omega)

set_option maxHeartbeats 2000000 in
set_option maxRecDepth 100000 in
theorem rparse_any (l : List UInt8) (A : Option Addr) (c : Nat) (w : World) (hR : Row w w.heap.size 1 A l.length (bcells l)) (hlc : l.length ≤ c) (hl : l.length ≤ 1000000000000) :
    Calls Tryz.prog 12 #[.slice A l.length c] w fun e w' => ∃ cs, e = .returned (.agg cs.toArray) ∧ TC w' (fun b => w.heap.size ≤ b ∧ b < w'.heap.size) (Bk.treeOf l) cs ∧ Bk.Few (Bk.treeOf l) ∧ Below w.heap.size w w' := by
  have hrun := fun w' h => rparsed_any l A c w' h hlc hl
  have hfo : Bk.treeOf l = Bk.treeT (Bk.run (Bk.linesOf l)).ns 0 := rfl
  rw [hfo]
  clear hfo
  replace hR := Lib.hid hR
  go_enter Tryz.func12, Tryz.ntmps12
  go_wp2_with fail
  have hz0 : (w.alloc (.cells #[.int .i64 0, .int .i64 0, .string ⟨#[]⟩, .string ⟨#[]⟩, .int .i64 0, .slice none 0 0] 37)).heap.size = w.heap.size + 1 := by simp
  have hn0 := heap_alloc_new w (.cells #[.int .i64 0, .int .i64 0, .string ⟨#[]⟩, .string ⟨#[]⟩, .int .i64 0, .slice none 0 0] 37)
  have hb0 := ext_alloc w (.cells #[.int .i64 0, .int .i64 0, .string ⟨#[]⟩, .string ⟨#[]⟩, .int .i64 0, .slice none 0 0] 37)
  generalize (w.alloc (.cells #[.int .i64 0, .int .i64 0, .string ⟨#[]⟩, .string ⟨#[]⟩, .int .i64 0, .slice none 0 0] 37)) = w0 at hz0 hn0 hb0 ⊢
  refine (hrun w0 (hR.out.ext hb0)).mono ?_
  rintro e w1 ⟨v, rfl, ⟨P, E, A', KV, ov, pv, rfl, H, hokr⟩, hb1⟩
  obtain ⟨_, hP2, _, hd0, _⟩ := par_facts H
  obtain ⟨q, hqq⟩ : ∃ q, A' 0 = q := ⟨_, rfl⟩
  rw [hqq] at hd0
  have hokp : Bk.Ok { Bk.run (Bk.linesOf l) with places := Bk.places (Bk.linesOf l) (Bk.linesOf l).length } := ⟨hokr.pos, hokr.opn, hokr.para, hokr.fence, hokr.few, hokr.small, hokr.root⟩
  have hblk := rblock_any E P A' KV ov pv _ hokp (Bk.run (Bk.linesOf l)).ns.length 0 hokr.pos (by simp) w1 _ H
  rw [hqq] at hblk
  have hfew := treeT_few hokr _ 0 hokr.pos (Nat.le_refl _)
  have hz1 := hb1.size
  have hn1 := (hb1.block w.heap.size (by omega)).trans hn0
  replace H := Lib.hid H
  replace hqq := Lib.hid hqq
  replace hn1 := Lib.hid hn1
  clear hn0 hrun
  go_wp2_with fail
  refine hblk.mono ?_
  rintro e w2 ⟨cs, rfl, hT, hb2⟩
  obtain ⟨ta, tb, te, tc, td, tA, tn, tk, rfl⟩ := TC_form hT
  have hz2 := hb2.size
  have hn2 := (hb2.block w.heap.size (by omega)).trans hn1.out
  have z0 := cell_of hn2 (j := 0) rfl
  have z1 := cell_of hn2 (j := 1) rfl
  have z2 := cell_of hn2 (j := 2) rfl
  have z3 := cell_of hn2 (j := 3) rfl
  have z4 := cell_of hn2 (j := 4) rfl
  have z5 := cell_of hn2 (j := 5) rfl
  have zf := blk_free hn2
  have hW := wrote_at hn2 (.int .i64 ta) (.int .i64 tb) (.string (bs tc)) (.string (bs td)) (.int .i64 te) (.slice tA tn tk)
  have hBw : Below w.heap.size w (wrote w2 w.heap.size (.int .i64 ta) (.int .i64 tb) (.string (bs tc)) (.string (bs td)) (.int .i64 te) (.slice tA tn tk)) := wrote_below ((hb0.trans (hb1.mono (by omega))).trans (hb2.mono (by omega))) _ _ _ _ _ _
  have hTw : TC (wrote w2 w.heap.size (.int .i64 ta) (.int .i64 tb) (.string (bs tc)) (.string (bs td)) (.int .i64 te) (.slice tA tn tk)) (fun b => w.heap.size ≤ b ∧ b < (wrote w2 w.heap.size (.int .i64 ta) (.int .i64 tb) (.string (bs tc)) (.string (bs td)) (.int .i64 te) (.slice tA tn tk)).heap.size) (Bk.treeT (Bk.run (Bk.linesOf l)).ns 0) [.int .i64 ta, .int .i64 tb, .string (bs tc), .string (bs td), .int .i64 te, .slice tA tn tk] :=
    TC_frame (fun b hb => wrote_block w2 (by have := hb.1; omega) _ _ _ _ _ _) (fun b hb => ⟨by have := hb.1; omega, by rw [wrote_size]; exact hb.2⟩) hT
  replace hT := Lib.hid hT
  replace hn2 := Lib.hid hn2
  replace hW := Lib.hid hW
  replace hBw := Lib.hid hBw
  replace hTw := Lib.hid hTw
  clear hd0
  go_wp2_with fail
  change bodyPost _ _ _ _ _ (wrote w2 w.heap.size (.int .i64 ta) (.int .i64 tb) (.string (bs tc)) (.string (bs td)) (.int .i64 te) (.slice tA tn tk))
  generalize wrote w2 w.heap.size (.int .i64 ta) (.int .i64 tb) (.string (bs tc)) (.string (bs td)) (.int .i64 te) (.slice tA tn tk) = wz at hW hBw hTw ⊢
  have y0 := cell_of hW.out (j := 0) rfl
  have y1 := cell_of hW.out (j := 1) rfl
  have y2 := cell_of hW.out (j := 2) rfl
  have y3 := cell_of hW.out (j := 3) rfl
  have y4 := cell_of hW.out (j := 4) rfl
  have y5 := cell_of hW.out (j := 5) rfl
  clear z0 z1 z2 z3 z4 z5 zf
  exact bodyPost_ret (v := .agg #[.int .i64 ta, .int .i64 tb, .string (bs tc), .string (bs td), .int .i64 te, .slice tA tn tk]) (by rw [results_cell1 rfl]; go_simp) rfl ⟨_, rfl, hTw.out, hfew, hBw.out⟩
end Go.Proofs.YtmbcddehacfpgaaGreatDoor

namespace Go.Proofs.YtmbcddehacfpgaaGreatDoor
open Go.RowKit
attribute [local go_sem] canOp readsAs readUpon

set_option maxHeartbeats 4000000 in
set_option maxRecDepth 100000 in
theorem treeSame_any : ∀ (N : Nat) (t : Bk.Tree) (_ : SizeOf.sizeOf t ≤ N) (_ : Bk.Few t) (cs ds : List Value) (w : World) (Q : Nat → Prop) (_ : ∀ b, Q b → b < w.heap.size) (_ : TC w Q t cs) (_ : TC w Q t ds),
    Calls Tryz.prog 10 #[.agg cs.toArray, .agg ds.toArray] w fun e w' => e = .returned (.bool true) ∧ Below w.heap.size w w'
  | 0, t, hN, _, _, _, _, _, _, _, _ => by cases t; simp at hN
  | N + 1, t, hN, hF, cs, ds, w, Q, hQ, h1, h2 => by
    have ih := treeSame_any N
    obtain ⟨kd, lv, tx, inf, ln, ks⟩ := t
    obtain ⟨hF1, hF2⟩ : ks.length ≤ 1000000000 ∧ ∀ t ∈ ks, Bk.Few t := by cases hF with | mk a b => exact ⟨a, b⟩
    unfold TC at h1 h2
    obtain ⟨A1, k1, css, rfl, hc1, hr1, hs1⟩ := h1
    obtain ⟨A2, k2, dss, rfl, hc2, hr2, hs2⟩ := h2
    have hkz := fun k hk => @kid_size kd lv tx inf ln ks k hk
    have e1 := bs_eq (a := tx) (b := tx) rfl
    have e2 := bs_eq (a := inf) (b := inf) rfl
    obtain ⟨n, hn⟩ : ∃ n, ks.length = n := ⟨_, rfl⟩
    rw [hn] at hr1 hr2 hc1 hc2 ⊢
    have hkn := fun k (h : k < n) => (by rw [hn]; exact h : k < ks.length)
    rw [hn] at hF1
    clear hn
    obtain ⟨w1, hw1⟩ : ∃ w1, (w.alloc (.cells #[.int .i64 (kd : Int), .int .i64 (lv : Int), .string (bs tx), .string (bs inf), .int .i64 (ln : Int), .slice A1 n k1] 37)).alloc (.cells #[.int .i64 (kd : Int), .int .i64 (lv : Int), .string (bs tx), .string (bs inf), .int .i64 (ln : Int), .slice A2 n k2] 37) = w1 := ⟨_, rfl⟩
    have hwb : Below w.heap.size w w1 := by rw [← hw1]; exact (ext_alloc w _).alloc (by simp) _
    have hwz : w1.heap.size = w.heap.size + 2 := by rw [← hw1]; simp
    have hwx : w1.heap[w.heap.size]? = some (.cells #[.int .i64 (kd : Int), .int .i64 (lv : Int), .string (bs tx), .string (bs inf), .int .i64 (ln : Int), .slice A1 n k1] 37) := by rw [← hw1]; exact blk_one w _ _
    have hwy : w1.heap[w.heap.size + 1]? = some (.cells #[.int .i64 (kd : Int), .int .i64 (lv : Int), .string (bs tx), .string (bs inf), .int .i64 (ln : Int), .slice A2 n k2] 37) := by rw [← hw1]; exact blk_two w _ _
    have qx := cell_of hwx (j := 5) rfl
    have qy := cell_of hwy (j := 5) rfl
    replace hw1 := Lib.hid hw1
    replace hwx := Lib.hid hwx
    replace hwy := Lib.hid hwy
    replace qx := Lib.hid qx
    replace qy := Lib.hid qy
    go_enter Tryz.func10, Tryz.ntmps10
    go_wp2_with fail
    rw [hw1.out]
    go_loopw [51] (fun u wr => ∃ k : Nat, k ≤ n ∧ u = .int .i64 (k : Int) ∧ Hid (Below (w.heap.size + 2) w1 wr)) (fun u _ => n - (intOf u).toNat)
    case atStart => exact ⟨0, by omega, rfl, Lib.hid (Below.refl _ _)⟩
    case round =>
      obtain ⟨k, hkk, rfl, hb⟩ := hrel
      rcases Nat.lt_or_eq_of_le hkk with hlt | rfl
      · have hk := hkn k hlt
        obtain ⟨c1, t1, a1⟩ := TCs_at hs1 hk
        obtain ⟨c2, t2, a2⟩ := TCs_at hs2 hk
        obtain ⟨b1, o1, rfl, hb1, r1⟩ := hr1.six (by omega)
        obtain ⟨b2, o2, rfl, hb2, r2⟩ := hr2.six (by omega)
        obtain ⟨p0, p1, p2, p3, p4, p5, rfl, _⟩ := TC_six t1
        obtain ⟨q0, q1, q2, q3, q4, q5, rfl, _⟩ := TC_six t2
        have hl1 := hQ _ hb1
        have hl2 := hQ _ hb2
        have hbw := hwb.trans (hb.out.mono (by omega))
        have x0 := (hbw.cell (p := ⟨b1, o1 + (k * 6 + 0), none⟩) hl1).trans (r1 _ _ (a1 0 (by omega)))
        have x1 := (hbw.cell (p := ⟨b1, o1 + (k * 6 + 1), none⟩) hl1).trans (r1 _ _ (a1 1 (by omega)))
        have x2 := (hbw.cell (p := ⟨b1, o1 + (k * 6 + 2), none⟩) hl1).trans (r1 _ _ (a1 2 (by omega)))
        have x3 := (hbw.cell (p := ⟨b1, o1 + (k * 6 + 3), none⟩) hl1).trans (r1 _ _ (a1 3 (by omega)))
        have x4 := (hbw.cell (p := ⟨b1, o1 + (k * 6 + 4), none⟩) hl1).trans (r1 _ _ (a1 4 (by omega)))
        have x5 := (hbw.cell (p := ⟨b1, o1 + (k * 6 + 5), none⟩) hl1).trans (r1 _ _ (a1 5 (by omega)))
        have y0 := (hbw.cell (p := ⟨b2, o2 + (k * 6 + 0), none⟩) hl2).trans (r2 _ _ (a2 0 (by omega)))
        have y1 := (hbw.cell (p := ⟨b2, o2 + (k * 6 + 1), none⟩) hl2).trans (r2 _ _ (a2 1 (by omega)))
        have y2 := (hbw.cell (p := ⟨b2, o2 + (k * 6 + 2), none⟩) hl2).trans (r2 _ _ (a2 2 (by omega)))
        have y3 := (hbw.cell (p := ⟨b2, o2 + (k * 6 + 3), none⟩) hl2).trans (r2 _ _ (a2 3 (by omega)))
        have y4 := (hbw.cell (p := ⟨b2, o2 + (k * 6 + 4), none⟩) hl2).trans (r2 _ _ (a2 4 (by omega)))
        have y5 := (hbw.cell (p := ⟨b2, o2 + (k * 6 + 5), none⟩) hl2).trans (r2 _ _ (a2 5 (by omega)))
        simp only [← Nat.add_assoc, Nat.add_zero] at x0 x1 x2 x3 x4 x5 y0 y1 y2 y3 y4 y5
        have X := (hb.out.cell (p := ⟨w.heap.size, 5, none⟩) (by show w.heap.size < _; omega)).trans qx.out
        have Y := (hb.out.cell (p := ⟨w.heap.size + 1, 5, none⟩) (by show w.heap.size + 1 < _; omega)).trans qy.out
        have hcall := ih ks[k] (by have := hkz k hk; omega) (hF2 _ (List.getElem_mem hk)) _ _ wr.drew Q (fun b h => Nat.lt_of_lt_of_le (hQ b h) hbw.size) (TC_frame (w := w) (w' := wr.drew) (Q := Q) (Q' := Q) (fun b h => hbw.block b (hQ b h)) (fun _ h => h) t1) (TC_frame (w := w) (w' := wr.drew) (Q := Q) (Q' := Q) (fun b h => hbw.block b (hQ b h)) (fun _ h => h) t2)
        have hk0 : (0 : Int) ≤ (k : Int) := by omega
        have hk1 : (k : Int) < (n : Int) := by omega
        have hbs := hb.out.size
        have hl1' : b1 < wr.drew.heap.size := Nat.lt_of_lt_of_le hl1 hbw.size
        have hl2' : b2 < wr.drew.heap.size := Nat.lt_of_lt_of_le hl2 hbw.size
        have hSu : ∀ u, Ext wr.drew u → u.cell? ⟨w.heap.size, 5, none⟩ = some (.slice (some ⟨b1, o1, none⟩) n k1) ∧ u.cell? ⟨w.heap.size + 1, 5, none⟩ = some (.slice (some ⟨b2, o2, none⟩) n k2) ∧
          (u.cell? ⟨b1, o1 + k * 6, none⟩ = some p0 ∧ u.cell? ⟨b1, o1 + k * 6 + 1, none⟩ = some p1 ∧ u.cell? ⟨b1, o1 + k * 6 + 2, none⟩ = some p2 ∧ u.cell? ⟨b1, o1 + k * 6 + 3, none⟩ = some p3 ∧ u.cell? ⟨b1, o1 + k * 6 + 4, none⟩ = some p4 ∧ u.cell? ⟨b1, o1 + k * 6 + 5, none⟩ = some p5) ∧
          (u.cell? ⟨b2, o2 + k * 6, none⟩ = some q0 ∧ u.cell? ⟨b2, o2 + k * 6 + 1, none⟩ = some q1 ∧ u.cell? ⟨b2, o2 + k * 6 + 2, none⟩ = some q2 ∧ u.cell? ⟨b2, o2 + k * 6 + 3, none⟩ = some q3 ∧ u.cell? ⟨b2, o2 + k * 6 + 4, none⟩ = some q4 ∧ u.cell? ⟨b2, o2 + k * 6 + 5, none⟩ = some q5) := fun u (hu : Below wr.drew.heap.size wr.drew u) => ⟨(hu.cell (p := ⟨w.heap.size, 5, none⟩) (by show w.heap.size < wr.heap.size; omega)).trans X, (hu.cell (p := ⟨w.heap.size + 1, 5, none⟩) (by show w.heap.size + 1 < wr.heap.size; omega)).trans Y,
          ⟨(hu.cell (p := ⟨b1, _, none⟩) hl1').trans x0, (hu.cell (p := ⟨b1, _, none⟩) hl1').trans x1, (hu.cell (p := ⟨b1, _, none⟩) hl1').trans x2, (hu.cell (p := ⟨b1, _, none⟩) hl1').trans x3, (hu.cell (p := ⟨b1, _, none⟩) hl1').trans x4, (hu.cell (p := ⟨b1, _, none⟩) hl1').trans x5⟩,
          (hu.cell (p := ⟨b2, _, none⟩) hl2').trans y0, (hu.cell (p := ⟨b2, _, none⟩) hl2').trans y1, (hu.cell (p := ⟨b2, _, none⟩) hl2').trans y2, (hu.cell (p := ⟨b2, _, none⟩) hl2').trans y3, (hu.cell (p := ⟨b2, _, none⟩) hl2').trans y4, (hu.cell (p := ⟨b2, _, none⟩) hl2').trans y5⟩
        replace hcall := Lib.hid hcall
        replace hSu := Lib.hid hSu
        replace hbw := Lib.hid hbw
        clear ih hkz hkn t1 t2 a1 a2 r1 r2 x0 x1 x2 x3 x4 x5 y0 y1 y2 y3 y4 y5 X Y qx qy
        go_wp2_with fail
        refine wp_region_can [(true, 0), (true, 1), (true, 2), (true, 3), (true, 4), (true, 5), (true, 6), (true, 7), (true, 8), (true, 9), (false, 10), (true, 11)] (Ext wr.drew) (Below.refl _ _) (by kernel_rfl) (by kernel_rfl) (by kernel_rfl) (fun _ _ d _ _ h => by cases d <;> exact h) ?_
        repeat (first | refine wpCan_move rfl ?_ | (refine wpCan_cons rfl ?_; intro K hK; go_simp; refine hK _ _ _ ?_; clear hK K))
        refine wpCan_read (.slice (some ⟨b1, o1, none⟩) n k1) rfl rfl (Below.refl _ _) (fun u hu => by obtain ⟨u1, u2, u3, u4⟩ := hSu.out u hu; go_simp) ?_
        repeat (first | refine wpCan_move rfl ?_ | (refine wpCan_cons rfl ?_; intro K hK; go_simp; refine hK _ _ _ ?_; clear hK K))
        refine wpCan_read (.agg #[p0, p1, p2, p3, p4, p5]) rfl rfl (Below.refl _ _) (fun u hu => by obtain ⟨u1, u2, ⟨v0, v1, v2, v3, v4, v5⟩, u4⟩ := hSu.out u hu; go_simp) ?_
        repeat (first | refine wpCan_move rfl ?_ | (refine wpCan_cons rfl ?_; intro K hK; go_simp; refine hK _ _ _ ?_; clear hK K))
        refine wpCan_read (.slice (some ⟨b2, o2, none⟩) n k2) rfl rfl (Below.refl _ _) (fun u hu => by obtain ⟨u1, u2, u3, u4⟩ := hSu.out u hu; go_simp) ?_
        repeat (first | refine wpCan_move rfl ?_ | (refine wpCan_cons rfl ?_; intro K hK; go_simp; refine hK _ _ _ ?_; clear hK K))
        refine wpCan_read (.agg #[q0, q1, q2, q3, q4, q5]) rfl rfl (Below.refl _ _) (fun u hu => by obtain ⟨u1, u2, u3, v0, v1, v2, v3, v4, v5⟩ := hSu.out u hu; go_simp) ?_
        refine wpCan_cons rfl ?_
        intro K hK
        go_simp
        refine hcall.out.mono ?_
        rintro e w8 ⟨rfl, hb8⟩
        have hb9 := Lib.hid ((below_drewN hb.out _).trans (hb8.mono (by have := hb.out.size; show w.heap.size + 2 ≤ wr.heap.size; omega)))
        refine can_ext hb8 (hK _ _ _ ?_)
        clear hK K
        repeat (first | refine wpCan_move rfl ?_ | (refine wpCan_cons rfl ?_; intro K hK; go_simp; refine hK _ _ _ ?_; clear hK K))
        refine wpCan_nil ?_
        go_wp2_with fail
        go_roundw
        case rel => exact ⟨k + 1, by omega, by go_num, hb9⟩
        case measure => simp [intOf]; omega
      · go_wp2_with fail
        go_ret
        exact ⟨rfl, hwb.trans (hb.out.mono (by omega))⟩
end Go.Proofs.YtmbcddehacfpgaaGreatDoor

namespace Go.Proofs.YtmbcddehacfpgaaGreatDoor
open Go.RowKit
attribute [local go_sem] canOp readsAs readUpon

theorem plc_same : ∀ ps : List Bk.Pl, plcCells ps = plCells ps
  | [] => rfl
  | p :: r => by unfold plcCells plCells; rw [plc_same r]
theorem plc_at : ∀ {ps : List Bk.Pl} {k : Nat} (_ : k < ps.length), ∃ a b c d e f g h, (∀ j u, [Value.int .i64 (a : Int), .int .u8 (b : Int), .int .i64 (c : Int), .int .i64 (d : Int), .string (bs e), .int .i64 (f : Int), .int .i64 (g : Int), .bool h][j]? = some u → (plCells ps)[k * 8 + j]? = some u)
  | [], k, hk => by simp at hk
  | p :: r, 0, _ => ⟨(p.line : Int), (p.op.c.toNat : Int), (p.op.n : Int), (p.op.ind : Int), p.op.info, (p.first : Int), (p.last : Int), p.closed, fun j u h => by
      unfold plCells
      rw [Nat.zero_mul, Nat.zero_add]
      have hj : j < 8 := (List.getElem?_eq_some_iff.1 h).1
      rw [← h]
      match j, hj with
      | 0, _ => rfl
      | 1, _ => rfl
      | 2, _ => rfl
      | 3, _ => rfl
      | 4, _ => rfl
      | 5, _ => rfl
      | 6, _ => rfl
      | 7, _ => rfl⟩
  | p :: r, k + 1, hk => by
    obtain ⟨a, b, c, d, e, f, g, h, h1⟩ := plc_at (ps := r) (k := k) (by simpa using hk)
    refine ⟨a, b, c, d, e, f, g, h, fun j u hj => ?_⟩
    rw [show (k + 1) * 8 + j = k * 8 + j + 8 from by omega]
    exact h1 j u hj

def wrote4 (wr : World) (g : Nat) (a b c d : Value) : World := (((wr.setCell ⟨g, 0, none⟩ a).setCell ⟨g, 1, none⟩ b).setCell ⟨g, 2, none⟩ c).setCell ⟨g, 3, none⟩ d
theorem wrote4_block (wr : World) {g k : Nat} (h : k ≠ g) (a b c d : Value) : (wrote4 wr g a b c d).heap[k]? = wr.heap[k]? := by
  unfold wrote4
  rw [Below.heap_setCell _ _ _ _ h, Below.heap_setCell _ _ _ _ h, Below.heap_setCell _ _ _ _ h, Below.heap_setCell _ _ _ _ h]
theorem wrote4_at {wr : World} {g : Nat} {z0 z1 z2 z3 : Value} {t : TypeId} (h : wr.heap[g]? = some (.cells #[z0, z1, z2, z3] t (0, 0))) (a b c d : Value) : (wrote4 wr g a b c d).heap[g]? = some (.cells #[a, b, c, d] t (0, 0)) :=
  heap_setCell_same _ g 3 _ t d (heap_setCell_same _ g 2 _ t c (heap_setCell_same _ g 1 _ t b (heap_setCell_same _ g 0 _ t a h)))
theorem wrote4_ext {w wr : World} (hb : Ext w wr) {g : Nat} (hg : w.heap.size ≤ g) (a b c d : Value) : Ext w (wrote4 wr g a b c d) :=
  (((Below.setCell hb (p := ⟨g, 0, none⟩) hg a).setCell (p := ⟨g, 1, none⟩) hg b).setCell (p := ⟨g, 2, none⟩) hg c).setCell (p := ⟨g, 3, none⟩) hg d
theorem cells4 {w : World} {g : Nat} {a b c d : Value} {t : TypeId} (h : w.heap[g]? = some (.cells #[a, b, c, d] t (0, 0))) : (w.cell? ⟨g, 0, none⟩ = some a ∧ w.cell? ⟨g, 1, none⟩ = some b ∧ w.cell? ⟨g, 2, none⟩ = some c ∧ w.cell? ⟨g, 3, none⟩ = some d) :=
  ⟨cell_of h (j := 0) rfl, cell_of h (j := 1) rfl, cell_of h (j := 2) rfl, cell_of h (j := 3) rfl⟩
set_option maxHeartbeats 4000000 in
set_option maxRecDepth 100000 in
theorem reads_any (l : List UInt8) (A : Option Addr) (c : Nat) (w : World) (hR : Row w w.heap.size 1 A l.length (bcells l)) (hlc : l.length ≤ c) (hl : l.length ≤ 1000000000000) :
    Calls Tryz.prog 5 #[.slice A l.length c] w fun e w' => e = .returned (.bool true) ∧ Below w.heap.size w w' := by
  have hT : Pb.tree (Pb.linesOf l) = Bk.treeOf l := Pb.tree_same _
  have hF : (Pb.read (Pb.linesOf l)).places = Bk.fencesOf l := Pb.places_same _
  have cpar := pparse l A c w hR hlc hl
  have crpar := fun w' h => rparse_any l A c w' h hlc hl
  have cfen := fun w' h => pfences l A c w' h hlc hl
  have crfen := fun w' h => rfences_any l A c w' h hlc hl
  rw [hT] at cpar
  simp only [hF, plc_same] at cfen
  generalize Bk.treeOf l = T at cpar crpar
  generalize Bk.fencesOf l = F at cfen crfen
  clear hT hF
  replace hR := Lib.hid hR
  replace crpar := Lib.hid crpar
  replace cfen := Lib.hid cfen
  replace crfen := Lib.hid crfen
  go_enter Tryz.func5, Tryz.ntmps5
  go_wp2_with fail
  refine cpar.mono ?_
  rintro e w1 ⟨cs, rfl, t1, hb1⟩
  obtain ⟨a0, a1, a2, a3, a4, a5, rfl, hone1⟩ := TC_six t1
  replace t1 := Lib.hid t1
  replace hb1 := Lib.hid hb1
  clear cpar hone1
  go_wp2_with fail
  refine (crpar.out w1 (hR.out.ext hb1.out)).mono ?_
  rintro e w2 ⟨cs, rfl, t2, hFew, hb2⟩
  obtain ⟨d0, d1, d2, d3, d4, d5, rfl, hone2⟩ := TC_six t2
  have hb12 := Lib.hid (ext_trans hb1.out hb2)
  have hs1 := hb1.out.size
  have hs2 := hb2.size
  have k1 := Lib.hid (TC_frame (w := w1) (w' := w2) (Q := fun b => w.heap.size ≤ b ∧ b < w1.heap.size) (Q' := fun b => w.heap.size ≤ b ∧ b < w2.heap.size) (fun b hb => hb2.block b hb.2) (fun b hb => ⟨hb.1, by have := hb.2; omega⟩) t1.out)
  have k2 := Lib.hid (TC_frame (w := w2) (w' := w2) (Q := fun b => w1.heap.size ≤ b ∧ b < w2.heap.size) (Q' := fun b => w.heap.size ≤ b ∧ b < w2.heap.size) (fun b hb => rfl) (fun b hb => ⟨by have := hb.1; omega, hb.2⟩) t2)
  replace hFew := Lib.hid hFew
  clear hone2 t2 t1 hb2 crpar
  go_wp2_with fail
  refine (treeSame_any _ T (Nat.le_refl _) hFew.out _ _ w2 (fun b => w.heap.size ≤ b ∧ b < w2.heap.size) (fun b hb => hb.2) k1.out k2.out).mono ?_
  rintro e w3 ⟨rfl, hb3⟩
  have hb13 := Lib.hid (ext_trans hb12.out hb3)
  clear hb3 k1 k2 hFew hb12 hb1 hs1 hs2
  go_wp2_with fail
  refine (cfen.out w3 (hR.out.ext hb13.out)).mono ?_
  rintro e w4 ⟨fv, rfl, x4, hb4⟩
  obtain ⟨A1, k1, rfl, hnk1⟩ := own_shape x4
  have hb14 := Lib.hid (ext_trans hb13.out hb4)
  have hs4 := hb4.size
  replace x4 := Lib.hid x4
  clear cfen hb4
  go_wp2_with fail
  refine (crfen.out w4 (hR.out.ext hb14.out)).mono ?_
  rintro e w5 ⟨fv, rfl, x5, hb5⟩
  obtain ⟨A2, k2, rfl, hnk2⟩ := own_shape x5
  have hb15 := Lib.hid (ext_trans hb14.out hb5)
  have y4 := Lib.hid (own_below x4.out hb5)
  replace x5 := Lib.hid x5
  clear crfen hb5 x4 hs4
  go_wp2_with fail
  obtain ⟨n, hn⟩ : ∃ n, F.length = n := ⟨_, rfl⟩
  rw [hn] at y4 x5 ⊢
  rw [hn] at hnk1 hnk2
  go_loopw [25] (fun u wr => ∃ k : Nat, k ≤ n ∧ u = .int .i64 (k : Int) ∧ Hid (Below w5.heap.size w5 wr)) (fun u _ => n - (intOf u).toNat)
  case atStart => exact ⟨0, by omega, rfl, Lib.hid (Below.refl _ _)⟩
  case round =>
    obtain ⟨k, hkk, rfl, hb⟩ := hrel
    rcases Nat.lt_or_eq_of_le hkk with hlt | rfl
    · rcases y4.out.2 with ⟨_, h0⟩ | ⟨g1, q1, u1, hv1, _, hg1, _⟩
      · omega
      rcases x5.out.2 with ⟨_, h0⟩ | ⟨g2, q2, u2, hv2, _, hg2, _⟩
      · omega
      cases hv1
      cases hv2
      have hML : (maxLen : Nat) = 9223372036854775807 := by unfold maxLen; omega
      have hnm : n ≤ 9223372036854775807 := by omega
      clear hML
      obtain ⟨a, b, d, e, f, g, h, z, hpl⟩ := plc_at (ps := F) (k := k) (by omega)
      have hl1 : g1 < w5.heap.size := (Array.getElem?_eq_some_iff.1 hg1).1
      have hl2 : g2 < w5.heap.size := (Array.getElem?_eq_some_iff.1 hg2).1
      have hSu : ∀ u, Ext wr.drew u → (u.cell? ⟨g1, k * 8, none⟩ = some (.int .i64 a) ∧ u.cell? ⟨g1, k * 8 + 1, none⟩ = some (.int .u8 b) ∧ u.cell? ⟨g1, k * 8 + 2, none⟩ = some (.int .i64 d) ∧ u.cell? ⟨g1, k * 8 + 3, none⟩ = some (.int .i64 e) ∧ u.cell? ⟨g1, k * 8 + 4, none⟩ = some (.string (bs f)) ∧ u.cell? ⟨g1, k * 8 + 5, none⟩ = some (.int .i64 g) ∧ u.cell? ⟨g1, k * 8 + 6, none⟩ = some (.int .i64 h) ∧ u.cell? ⟨g1, k * 8 + 7, none⟩ = some (.bool z)) ∧
        (u.cell? ⟨g2, k * 8, none⟩ = some (.int .i64 a) ∧ u.cell? ⟨g2, k * 8 + 1, none⟩ = some (.int .u8 b) ∧ u.cell? ⟨g2, k * 8 + 2, none⟩ = some (.int .i64 d) ∧ u.cell? ⟨g2, k * 8 + 3, none⟩ = some (.int .i64 e) ∧ u.cell? ⟨g2, k * 8 + 4, none⟩ = some (.string (bs f)) ∧ u.cell? ⟨g2, k * 8 + 5, none⟩ = some (.int .i64 g) ∧ u.cell? ⟨g2, k * 8 + 6, none⟩ = some (.int .i64 h) ∧ u.cell? ⟨g2, k * 8 + 7, none⟩ = some (.bool z)) := by
        intro u hu
        have hbu : Below w5.heap.size w5 u := (below_drewN hb.out _).trans (hu.mono hb.out.size)
        have c1 := fun j v (hj : [Value.int .i64 (a : Int), .int .u8 (b : Int), .int .i64 (d : Int), .int .i64 (e : Int), .string (bs f), .int .i64 (g : Int), .int .i64 (h : Int), .bool z][j]? = some v) => (hbu.cell (p := ⟨g1, k * 8 + j, none⟩) hl1).trans (own_cell y4.out (hpl j v hj))
        have c2 := fun j v (hj : [Value.int .i64 (a : Int), .int .u8 (b : Int), .int .i64 (d : Int), .int .i64 (e : Int), .string (bs f), .int .i64 (g : Int), .int .i64 (h : Int), .bool z][j]? = some v) => (hbu.cell (p := ⟨g2, k * 8 + j, none⟩) hl2).trans (own_cell x5.out (hpl j v hj))
        exact ⟨⟨c1 0 _ rfl, c1 1 _ rfl, c1 2 _ rfl, c1 3 _ rfl, c1 4 _ rfl, c1 5 _ rfl, c1 6 _ rfl, c1 7 _ rfl⟩, c2 0 _ rfl, c2 1 _ rfl, c2 2 _ rfl, c2 3 _ rfl, c2 4 _ rfl, c2 5 _ rfl, c2 6 _ rfl, c2 7 _ rfl⟩
      replace hSu := Lib.hid hSu
      clear hpl hg1 hg2
      have hk0 : (0 : Int) ≤ (k : Int) := by omega
      have hk1 : (k : Int) < (n : Int) := by omega
      go_upto_region 9 with fail
      go_cut [6, 7] from 28 to 116 (fun x y wx => ∃ g6 g7, x = .pointer (some ⟨g6, 0, none⟩) ∧ y = .pointer (some ⟨g7, 0, none⟩) ∧ (wx.cell? ⟨g6, 0, none⟩ = some (.int .u8 b) ∧ wx.cell? ⟨g6, 1, none⟩ = some (.int .i64 d) ∧ wx.cell? ⟨g6, 2, none⟩ = some (.int .i64 e) ∧ wx.cell? ⟨g6, 3, none⟩ = some (.string (bs f))) ∧
        (wx.cell? ⟨g7, 0, none⟩ = some (.int .u8 b) ∧ wx.cell? ⟨g7, 1, none⟩ = some (.int .i64 d) ∧ wx.cell? ⟨g7, 2, none⟩ = some (.int .i64 e) ∧ wx.cell? ⟨g7, 3, none⟩ = some (.string (bs f))) ∧ Hid (Ext wr.drew wx))
      case first =>
        refine wp_region_tree (.rd 0 (.rd 1 (.rd 2 (.rd 3 (.rd 4 (.rd 5 (.rd 6 (.rd 7 (.rd 8 (.rd 9 (.fk 10 (.mk 11 (.mk 12 (.mk 13 .fin))) 11 (.mk 10 (.mk 12 (.mk 13 .fin)))))))))))))) (Ext wr.drew) (Below.refl _ _) (by kernel_rfl) (by kernel_rfl) (by kernel_rfl) (fun _ _ d _ _ h => by cases d <;> exact h) ?_
        have hE := Ext.refl wr.drew
        generalize hw6 : wr.drew = w6 at hSu hE ⊢
        repeat (first | refine wpT_move rfl ?_ | (refine wpT_rd rfl ?_; intro K hK; go_simp; refine hK _ _ _ ?_; clear hK K))
        refine wpT_read (.agg #[.int .u8 b, .int .i64 d, .int .i64 e, .string (bs f)]) rfl rfl hE (fun u hu => by obtain ⟨⟨v0, v1, v2, v3, v4, v5, v6, v7⟩, x0, x1, x2, x3, x4, x5, x6, x7⟩ := hSu.out u hu; go_simp) ?_
        repeat (first | refine wpT_move rfl ?_ | (refine wpT_rd rfl ?_; intro K hK; go_simp; refine hK _ _ _ ?_; clear hK K))
        refine wpT_read (.agg #[.int .u8 b, .int .i64 d, .int .i64 e, .string (bs f)]) rfl rfl hE (fun u hu => by obtain ⟨⟨v0, v1, v2, v3, v4, v5, v6, v7⟩, x0, x1, x2, x3, x4, x5, x6, x7⟩ := hSu.out u hu; go_simp) ?_
        have hq0 : ∀ (w6 : World) (X Y : Obj), Ext w6 ((w6.alloc X).alloc Y) := fun w6 X Y => (ext_alloc w6 X).trans ((ext_alloc _ Y).mono (by simp))
        refine wpT_fk ?wa ?wb
        case' wa =>
          refine wpT_mk rfl ?_
          intro K hK
          go_simp
          refine can_same (ext_alloc _ _) (hK _ _ _ ?_)
          clear hK K
          refine wpT_mk rfl ?_
          intro K hK
          go_simp
          refine can_same (hq0 _ _ _) (hK _ _ _ ?_)
          clear hK K
          have hx := blk_one w6 (.cells #[.int .u8 0, .int .i64 0, .int .i64 0, .string ⟨#[]⟩] 44) (.cells #[.int .u8 0, .int .i64 0, .int .i64 0, .string ⟨#[]⟩] 47)
          have hy := blk_two w6 (.cells #[.int .u8 0, .int .i64 0, .int .i64 0, .string ⟨#[]⟩] 44) (.cells #[.int .u8 0, .int .i64 0, .int .i64 0, .string ⟨#[]⟩] 47)
          have hz := hq0 w6 (.cells #[.int .u8 0, .int .i64 0, .int .i64 0, .string ⟨#[]⟩] 44) (.cells #[.int .u8 0, .int .i64 0, .int .i64 0, .string ⟨#[]⟩] 47)
          generalize (w6.alloc (.cells #[.int .u8 0, .int .i64 0, .int .i64 0, .string ⟨#[]⟩] 44)).alloc (.cells #[.int .u8 0, .int .i64 0, .int .i64 0, .string ⟨#[]⟩] 47) = w7 at hx hy hz ⊢
          obtain ⟨p7, hp2⟩ : ∃ p2, w6.heap.size + 1 = p2 := ⟨_, rfl⟩
          rw [hp2] at hy ⊢
          obtain ⟨p6, hp1⟩ : ∃ p1, w6.heap.size = p1 := ⟨_, rfl⟩
          rw [hp1] at hx ⊢
          have hg6 : w6.heap.size ≤ p6 := by omega
          have hg7 : w6.heap.size ≤ p7 := by omega
          have hne : p7 ≠ p6 := by omega
          clear hp1 hp2
          have h6 := hx; have h7 := hy; clear hx hy
        case' wb =>
          refine wpT_mk rfl ?_
          intro K hK
          go_simp
          refine can_same (ext_alloc _ _) (hK _ _ _ ?_)
          clear hK K
          refine wpT_mk rfl ?_
          intro K hK
          go_simp
          refine can_same (hq0 _ _ _) (hK _ _ _ ?_)
          clear hK K
          have hx := blk_one w6 (.cells #[.int .u8 0, .int .i64 0, .int .i64 0, .string ⟨#[]⟩] 47) (.cells #[.int .u8 0, .int .i64 0, .int .i64 0, .string ⟨#[]⟩] 44)
          have hy := blk_two w6 (.cells #[.int .u8 0, .int .i64 0, .int .i64 0, .string ⟨#[]⟩] 47) (.cells #[.int .u8 0, .int .i64 0, .int .i64 0, .string ⟨#[]⟩] 44)
          have hz := hq0 w6 (.cells #[.int .u8 0, .int .i64 0, .int .i64 0, .string ⟨#[]⟩] 47) (.cells #[.int .u8 0, .int .i64 0, .int .i64 0, .string ⟨#[]⟩] 44)
          generalize (w6.alloc (.cells #[.int .u8 0, .int .i64 0, .int .i64 0, .string ⟨#[]⟩] 47)).alloc (.cells #[.int .u8 0, .int .i64 0, .int .i64 0, .string ⟨#[]⟩] 44) = w7 at hx hy hz ⊢
          obtain ⟨p6, hp2⟩ : ∃ p2, w6.heap.size + 1 = p2 := ⟨_, rfl⟩
          rw [hp2] at hy ⊢
          obtain ⟨p7, hp1⟩ : ∃ p1, w6.heap.size = p1 := ⟨_, rfl⟩
          rw [hp1] at hx ⊢
          have hg6 : w6.heap.size ≤ p6 := by omega
          have hg7 : w6.heap.size ≤ p7 := by omega
          have hne : p7 ≠ p6 := by omega
          clear hp1 hp2
          have h7 := hx; have h6 := hy; clear hx hy
        all_goals
          obtain ⟨z0, z1, z2, z3⟩ := cells4 h6
          have zf := blk_free h6
          refine wpT_mk rfl ?_
          intro K hK
          go_simp
          refine can_same (show Ext w6 (wrote4 w7 p6 (.int .u8 b) (.int .i64 d) (.int .i64 e) (.string (bs f))) from wrote4_ext hz hg6 _ _ _ _) (hK _ _ _ ?_)
          clear hK K z0 z1 z2 z3 zf
          change wpT _ _ _ _ _ _ (wrote4 w7 p6 (.int .u8 b) (.int .i64 d) (.int .i64 e) (.string (bs f)))
          have h6' := wrote4_at h6 (.int .u8 b) (.int .i64 d) (.int .i64 e) (.string (bs f))
          have h7' := (wrote4_block w7 hne (.int .u8 b) (.int .i64 d) (.int .i64 e) (.string (bs f))).trans h7
          have hz' := wrote4_ext hz hg6 (.int .u8 b) (.int .i64 d) (.int .i64 e) (.string (bs f))
          generalize wrote4 w7 p6 (.int .u8 b) (.int .i64 d) (.int .i64 e) (.string (bs f)) = w8 at h6' h7' hz' ⊢
          obtain ⟨z0, z1, z2, z3⟩ := cells4 h7'
          have zf := blk_free h7'
          refine wpT_mk rfl ?_
          intro K hK
          go_simp
          refine can_same (show Ext w6 (wrote4 w8 p7 (.int .u8 b) (.int .i64 d) (.int .i64 e) (.string (bs f))) from wrote4_ext hz' hg7 _ _ _ _) (hK _ _ _ ?_)
          clear hK K z0 z1 z2 z3 zf
          change wpT _ _ _ _ _ _ (wrote4 w8 p7 (.int .u8 b) (.int .i64 d) (.int .i64 e) (.string (bs f)))
          have h7'' := wrote4_at h7' (.int .u8 b) (.int .i64 d) (.int .i64 e) (.string (bs f))
          have h6'' := (wrote4_block w8 (Ne.symm hne) (.int .u8 b) (.int .i64 d) (.int .i64 e) (.string (bs f))).trans h6'
          have hz'' := Lib.hid (wrote4_ext hz' hg7 (.int .u8 b) (.int .i64 d) (.int .i64 e) (.string (bs f)))
          generalize wrote4 w8 p7 (.int .u8 b) (.int .i64 d) (.int .i64 e) (.string (bs f)) = w9 at h6'' h7'' hz'' ⊢
          have c6 := cells4 h6''
          have c7 := cells4 h7''
          clear h6 h7 h6' h7' hz hz' h6'' h7''
          refine wpT_fin ?_
          go_wp2_with fail
          go_meet
          case rel => exact ⟨_, _, rfl, rfl, c6, c7, by rw [hw6]; exact hz''⟩
      case rest =>
        obtain ⟨g6, g7, rfl, rfl, ⟨r0, r1, r2, r3⟩, ⟨s0, s1, s2, s3⟩, hz⟩ := hcut
        obtain ⟨⟨v0, -, -, -, -, v5, v6, v7⟩, x0, -, -, -, -, x5, x6, x7⟩ := hSu.out wc hz.out
        have hbz : Below w5.heap.size w5 wc := (below_drewN hb.out _).trans ((show Below wr.heap.size wr.drew wc from hz.out).mono hb.out.size)
        replace hbz := Lib.hid hbz
        clear hSu hz hb
        go_wp2_with fail
        go_quiet (fail)
        go_wp2_with fail
        go_roundw
        case rel => exact ⟨k + 1, by omega, by go_num, Lib.hid (below_drewN hbz.out _)⟩
        case measure => simp [intOf]; omega
    · go_wp2_with fail
      go_ret
      exact ⟨rfl, hb15.out.trans (hb.out.mono hb15.out.size)⟩
end Go.Proofs.YtmbcddehacfpgaaGreatDoor
