/- The program's reader of blocks: a document's lines. A document's pieces, one by one: plain mathematics. No program is spoken of here. What Collect gives, by no program: each Def lies within its document, its bytes are its lines, no two meet, those of a key are of one kind; keys are told once. The program's places of fences. Package chunk: the pieces of a document. Package chunk: Collect. Law 14's 'known': what the runs that chapter 14 shows come to, as functions. -/
import Derived.Test.YtmmgfoepfapnkaaGreatDoorQ22
import Derived.Test.YtmmgfoepfapnkaaGreatDoorQ04
import Derived.Test.YtmmgfoepfapnkaaGreatDoorQ23
import Derived.Test.YtmmgfoepfapnkaaGreatDoorQ25
import Derived.Test.YtmmgfoepfapnkaaGreatDoorQ21
import Derived.Test.YtmmgfoepfapnkaaGreatDoorQ02
import Derived.Test.YtmmgfoepfapnkaaGreatDoorQ24
namespace Go.Proofs.YtmmgfoepfapnkaaGreatDoor
open Go.RowKit
attribute [local go_sem] canOp readsAs readUpon

/-- a document's lines, as they are read: no more than 65536 bytes -/
def Pb.linesOf (l : List UInt8) : List (List UInt8) := (Ln.texts (l.take 65536) 0).map Ru.text
theorem pline_len {l : List UInt8} {k : Nat} : ∀ s ∈ Ln.texts l k, s.length ≤ l.length := by
  intro s hs
  unfold Ln.texts at hs
  obtain ⟨x, _, rfl⟩ := List.mem_map.1 hs
  unfold mid
  rw [List.length_take, List.length_drop]; omega
theorem plines_at {ts : List (List UInt8)} {k : Nat} (h : k < ts.length) (r : Pb.Rd) : Pb.lines ((ts.drop k).map Ru.text) k r = Pb.lines ((ts.drop (k + 1)).map Ru.text) (k + 1) (Pb.takeLine k (Ru.text ts[k]) r) := by
  rw [List.drop_eq_getElem_cons h, List.map_cons, Pb.lines]
theorem plines_end {ts : List (List UInt8)} {k : Nat} (h : ¬ k < ts.length) (r : Pb.Rd) : Pb.lines ((ts.drop k).map Ru.text) k r = r := by
  rw [List.drop_eq_nil_of_le (by omega)]; rfl
theorem Hp.low {K : Type} {w w' : World} {B g : Nat} {m : K → Option Part} (h : Hp w B m) (hg : w.grownBy w' (some g)) (hl : g < B) : Hp w' B m :=
  ⟨fun k a ha => Part.kept (h.holds k a ha) hg (by
    cases hb : a.block with
    | none => exact .inl rfl
    | some b => exact .inr fun e => by have := (Part.lt (h.holds k a ha) hb).1; cases e; omega), h.apart⟩
abbrev docArr : Array Value := #[.int .i64 0, .int .i64 0, .string ⟨#[]⟩, .string ⟨#[]⟩, .int .i64 0, .slice none 0 0, .int .u8 0, .int .i64 0, .int .u8 0]
abbrev rdArr (rv lv pv : Value) (l : Pb.Of) : Array Value := #[rv, .int .i64 (l.kind : Int), .int .i64 (l.line : Int), lv, .int .u8 (l.op.c.toNat : Int), .int .i64 (l.op.n : Int), .int .i64 (l.op.ind : Int), .string (bs l.op.info), .bool l.ended, pv]
abbrev rd0 (rv : Value) : Array Value := #[rv, .int .i64 0, .int .i64 0, .slice none 0 0, .int .u8 0, .int .i64 0, .int .i64 0, .string ⟨#[]⟩, .bool false, .slice none 0 0]
def docMC : MC := ⟨⟨0, 0, [], 0, 0, none⟩, .slice none 0 0, [], .slice none 0 0, []⟩
theorem start_pat (w : World) : PAt ((w.alloc (.cells docArr 167)).alloc (.cells (rd0 (.slice (some ⟨w.heap.size, 0, none⟩) 1 1)) 138)) w.heap.size (fun _ => none) (w.heap.size + 1) (.slice (some ⟨w.heap.size, 0, none⟩) 1 1) (.slice none 0 0) (.slice none 0 0) (fun _ => none) [docMC] Pb.noLeaf [] := by
  have H0 : Hp w w.heap.size (fun _ : PKey => (none : Option Part)) := ⟨fun _ _ h => (by cases h), fun _ _ _ _ _ h => (by cases h)⟩
  have H1 := H0.umore (k := .row) (.row 167 9 (.slice (some ⟨w.heap.size, 0, none⟩) 1 1) 1 docArr.toList) rfl (ext_alloc w (.cells docArr 167)) ⟨rfl, .inr ⟨w.heap.size, 1, docArr, rfl, Nat.le_refl _, heap_alloc_new w _, Nat.le_refl _, by unfold maxLen; omega, rfl, rfl⟩⟩ (fun g e => by cases e; exact Nat.le_refl _)
  have hz : (w.alloc (.cells docArr 167)).heap.size = w.heap.size + 1 := by simp
  have H2 := H1.umore (k := .rd) (.blk (w.heap.size + 1) (rd0 (.slice (some ⟨w.heap.size, 0, none⟩) 1 1)) 138) (upd_other _ _ (by simp)) (ext_alloc _ (.cells (rd0 (.slice (some ⟨w.heap.size, 0, none⟩) 1 1)) 138)) ⟨by omega, by
    have := heap_alloc_new (w.alloc (.cells docArr 167)) (.cells (rd0 (.slice (some ⟨w.heap.size, 0, none⟩) 1 1)) 138)
    rw [hz] at this; exact this⟩ (fun g e => by cases e; exact Nat.le_of_eq hz)
  have H3 := H2.umore (k := .lns) (.row 9 1 (.slice none 0 0) 0 []) ((upd_other _ _ (by simp)).trans (upd_other _ _ (by simp))) (Below.refl _ _) (World.ownsRow_nil _ _ _ _) (fun g e => by cases e)
  have H4 := H3.umore (k := .pls) (.row 107 8 (.slice none 0 0) 0 []) ((upd_other _ _ (by simp)).trans ((upd_other _ _ (by simp)).trans (upd_other _ _ (by simp)))) (Below.refl _ _) (World.ownsRow_nil _ _ _ _) (fun g e => by cases e)
  have H5 := H4.umore (k := .kid 0) (.row 149 6 (.slice none 0 0) 0 []) ((upd_other _ _ (by simp)).trans ((upd_other _ _ (by simp)).trans ((upd_other _ _ (by simp)).trans (upd_other _ _ (by simp))))) (Below.refl _ _) (World.ownsRow_nil _ _ _ _) (fun g e => by cases e)
  refine ⟨H5.same fun j => ?_, fun x hx => ?_, fun b a e => by cases e⟩
  · cases j with
    | kid i =>
      cases i with
      | zero => rfl
      | succ i => rfl
    | itm i =>
      cases i with
      | zero => rfl
      | succ i => rfl
    | _ => rfl
  · rw [List.mem_singleton.1 hx]
    exact ⟨TMs_nil, fun _ _ _ e => by cases e⟩
theorem start_sz : Pb.Sz 0 0 Pb.start := by
  refine ⟨by decide, by decide, fun c hc => ?_, fun c hc s ln is e => ?_, fun c hc e => ?_, by decide, fun s hs => (by cases hs), by decide, by decide⟩
  · rw [List.mem_singleton.1 hc]; decide
  · rw [List.mem_singleton.1 hc] at e; cases e
  · rw [List.mem_singleton.1 hc] at e; cases e
/-- ten cells are written -/
def ten (w : World) (g : Nat) (a0 a1 a2 a3 a4 a5 a6 a7 a8 a9 : Value) : World := ((((((((((w.setCell ⟨g, 0, none⟩ a0).setCell ⟨g, 1, none⟩ a1).setCell ⟨g, 2, none⟩ a2).setCell ⟨g, 3, none⟩ a3).setCell ⟨g, 4, none⟩ a4).setCell ⟨g, 5, none⟩ a5).setCell ⟨g, 6, none⟩ a6).setCell ⟨g, 7, none⟩ a7).setCell ⟨g, 8, none⟩ a8).setCell ⟨g, 9, none⟩ a9)
theorem ten_at {w : World} {g : Nat} {z0 z1 z2 z3 z4 z5 z6 z7 z8 z9 : Value} {t : TypeId} (h : w.heap[g]? = some (.cells #[z0, z1, z2, z3, z4, z5, z6, z7, z8, z9] t (0, 0))) (a0 a1 a2 a3 a4 a5 a6 a7 a8 a9 : Value) : (ten w g a0 a1 a2 a3 a4 a5 a6 a7 a8 a9).heap[g]? = some (.cells #[a0, a1, a2, a3, a4, a5, a6, a7, a8, a9] t (0, 0)) := by
  unfold ten
  have h1 : (w.setCell ⟨g, 0, none⟩ a0).heap[g]? = some (.cells #[a0, z1, z2, z3, z4, z5, z6, z7, z8, z9] t (0, 0)) := heap_setCell_same w g 0 _ t a0 h
  generalize hw1 : (w.setCell ⟨g, 0, none⟩ a0) = w1 at h1 ⊢
  have h2 : (w1.setCell ⟨g, 1, none⟩ a1).heap[g]? = some (.cells #[a0, a1, z2, z3, z4, z5, z6, z7, z8, z9] t (0, 0)) := heap_setCell_same w1 g 1 _ t a1 h1
  generalize hw2 : (w1.setCell ⟨g, 1, none⟩ a1) = w2 at h2 ⊢
  have h3 : (w2.setCell ⟨g, 2, none⟩ a2).heap[g]? = some (.cells #[a0, a1, a2, z3, z4, z5, z6, z7, z8, z9] t (0, 0)) := heap_setCell_same w2 g 2 _ t a2 h2
  generalize hw3 : (w2.setCell ⟨g, 2, none⟩ a2) = w3 at h3 ⊢
  have h4 : (w3.setCell ⟨g, 3, none⟩ a3).heap[g]? = some (.cells #[a0, a1, a2, a3, z4, z5, z6, z7, z8, z9] t (0, 0)) := heap_setCell_same w3 g 3 _ t a3 h3
  generalize hw4 : (w3.setCell ⟨g, 3, none⟩ a3) = w4 at h4 ⊢
  have h5 : (w4.setCell ⟨g, 4, none⟩ a4).heap[g]? = some (.cells #[a0, a1, a2, a3, a4, z5, z6, z7, z8, z9] t (0, 0)) := heap_setCell_same w4 g 4 _ t a4 h4
  generalize hw5 : (w4.setCell ⟨g, 4, none⟩ a4) = w5 at h5 ⊢
  have h6 : (w5.setCell ⟨g, 5, none⟩ a5).heap[g]? = some (.cells #[a0, a1, a2, a3, a4, a5, z6, z7, z8, z9] t (0, 0)) := heap_setCell_same w5 g 5 _ t a5 h5
  generalize hw6 : (w5.setCell ⟨g, 5, none⟩ a5) = w6 at h6 ⊢
  have h7 : (w6.setCell ⟨g, 6, none⟩ a6).heap[g]? = some (.cells #[a0, a1, a2, a3, a4, a5, a6, z7, z8, z9] t (0, 0)) := heap_setCell_same w6 g 6 _ t a6 h6
  generalize hw7 : (w6.setCell ⟨g, 6, none⟩ a6) = w7 at h7 ⊢
  have h8 : (w7.setCell ⟨g, 7, none⟩ a7).heap[g]? = some (.cells #[a0, a1, a2, a3, a4, a5, a6, a7, z8, z9] t (0, 0)) := heap_setCell_same w7 g 7 _ t a7 h7
  generalize hw8 : (w7.setCell ⟨g, 7, none⟩ a7) = w8 at h8 ⊢
  have h9 : (w8.setCell ⟨g, 8, none⟩ a8).heap[g]? = some (.cells #[a0, a1, a2, a3, a4, a5, a6, a7, a8, z9] t (0, 0)) := heap_setCell_same w8 g 8 _ t a8 h8
  generalize hw9 : (w8.setCell ⟨g, 8, none⟩ a8) = w9 at h9 ⊢
  have h10 : (w9.setCell ⟨g, 9, none⟩ a9).heap[g]? = some (.cells #[a0, a1, a2, a3, a4, a5, a6, a7, a8, a9] t (0, 0)) := heap_setCell_same w9 g 9 _ t a9 h9
  exact h10
theorem ten_below {B : Nat} {w0 w : World} (hb : Below B w0 w) {g : Nat} (hg : B ≤ g) (a0 a1 a2 a3 a4 a5 a6 a7 a8 a9 : Value) : Below B w0 (ten w g a0 a1 a2 a3 a4 a5 a6 a7 a8 a9) := by
  unfold ten
  exact ((((((((((hb.setCell (p := ⟨g, 0, none⟩) hg a0).setCell (p := ⟨g, 1, none⟩) hg a1).setCell (p := ⟨g, 2, none⟩) hg a2).setCell (p := ⟨g, 3, none⟩) hg a3).setCell (p := ⟨g, 4, none⟩) hg a4).setCell (p := ⟨g, 5, none⟩) hg a5).setCell (p := ⟨g, 6, none⟩) hg a6).setCell (p := ⟨g, 7, none⟩) hg a7).setCell (p := ⟨g, 8, none⟩) hg a8).setCell (p := ⟨g, 9, none⟩) hg a9)
theorem ten_grown (w : World) (g : Nat) (a0 a1 a2 a3 a4 a5 a6 a7 a8 a9 : Value) : w.grownBy (ten w g a0 a1 a2 a3 a4 a5 a6 a7 a8 a9) (some g) := by
  unfold ten
  exact ((((((((((grown_set w ⟨g, 0, none⟩ a0).trans (grown_set _ ⟨g, 1, none⟩ a1)).trans (grown_set _ ⟨g, 2, none⟩ a2)).trans (grown_set _ ⟨g, 3, none⟩ a3)).trans (grown_set _ ⟨g, 4, none⟩ a4)).trans (grown_set _ ⟨g, 5, none⟩ a5)).trans (grown_set _ ⟨g, 6, none⟩ a6)).trans (grown_set _ ⟨g, 7, none⟩ a7)).trans (grown_set _ ⟨g, 8, none⟩ a8)).trans (grown_set _ ⟨g, 9, none⟩ a9))

set_option maxHeartbeats 4000000 in
set_option maxRecDepth 100000 in
theorem pread (l : List UInt8) (A : Option Addr) (c : Nat) (w : World) (hR : Row w w.heap.size 1 A l.length (bcells l)) (hlc : l.length ≤ c) (hl : l.length ≤ 9223372036854775807) :
    Calls Tryz.prog 78 #[.slice A l.length c] w fun e w' => ∃ R rv lv pv M row, e = .returned (.agg (rdArr rv lv pv (Pb.read (Pb.linesOf l)).leaf)) ∧ row.map (·.c) = (Pb.read (Pb.linesOf l)).row ∧ PAt w' (w.heap.size + 1) (fun _ => none) R rv lv pv M row (Pb.read (Pb.linesOf l)).leaf (Pb.read (Pb.linesOf l)).places ∧ Pb.Sz 800000000 0 (Pb.read (Pb.linesOf l)) ∧ Pb.Doc (Pb.read (Pb.linesOf l)).row ∧ Below w.heap.size w w' := by
  obtain ⟨m, hm⟩ : ∃ m, (l.take 65536).length = m := ⟨_, rfl⟩
  have hml : m ≤ 65536 ∧ m ≤ l.length := by rw [← hm, List.length_take]; omega
  have hmin : (if (65536 : Int) < (l.length : Int) then (65536 : Int) else (l.length : Int)) = (m : Int) ∧ min (l.length : Int) 65536 = (m : Int) := by
    rw [List.length_take] at hm
    refine ⟨?_, by omega⟩
    split <;> omega
  have hR2 : Row w w.heap.size 1 A m (bcells (l.take 65536)) := by
    have := hR.take hml.2
    rw [Nat.mul_one] at this
    have e : (bcells l).take m = bcells (l.take 65536) := by
      unfold bcells
      rw [← List.map_take]
      congr 1
      rw [← hm, List.length_take]
      rcases Nat.le_total 65536 l.length with h | h
      · rw [Nat.min_eq_left h]
      · rw [Nat.min_eq_right h, List.take_of_length_le (Nat.le_refl _), List.take_of_length_le h]
    rwa [e] at this
  have htx := fun w' h => texts_any (l.take 65536) A c w' h (by rw [hm]; omega) (by rw [hm]; omega)
  have hlo : Pb.linesOf l = (Ln.texts (l.take 65536) 0).map Ru.text := rfl
  have hll := @pline_len (l.take 65536) 0
  have htn := Ln.texts_len (l.take 65536) 0
  rw [hm] at htx hll htn
  obtain ⟨ts, hts⟩ : ∃ ts, Ln.texts (l.take 65536) 0 = ts := ⟨_, rfl⟩
  rw [hts] at htx hlo hll htn
  rw [hlo]
  have hcs : (l.length : Int) ≤ (c : Int) := by omega
  have hmc : (m : Int) ≤ (c : Int) := by omega
  obtain ⟨hmin1, hmin2⟩ := hmin
  obtain ⟨G, hG⟩ : ∃ G, Pb.read (ts.map Ru.text) = G := ⟨_, rfl⟩
  rw [hG]
  obtain ⟨gl, hgl0⟩ : ∃ gl, G.leaf = gl := ⟨_, rfl⟩
  rw [hgl0]
  replace hgl0 := Lib.hid hgl0
  obtain ⟨G0, hG0⟩ : ∃ G0, Pb.lines ((ts.drop 0).map Ru.text) 0 Pb.start = G0 := ⟨_, rfl⟩
  have hGG : Pb.closeTo 1 G0 = G := by rw [← hG0, ← hG]; rfl
  have hs0 := ext_alloc w (.cells (rd0 (.slice none 0 0)) 138)
  have hn0 := heap_alloc_new w (.cells (rd0 (.slice none 0 0)) 138)
  have hz0 : (w.alloc (.cells (rd0 (.slice none 0 0)) 138)).heap.size = w.heap.size + 1 := by simp
  have hP0 := start_pat (w.alloc (.cells (rd0 (.slice none 0 0)) 138))
  have hb0 : Below (w.heap.size + 1) (w.alloc (.cells (rd0 (.slice none 0 0)) 138)) _ := (((Below.refl _ _).alloc (by rw [hz0]; exact Nat.le_refl _) (.cells docArr 167)).alloc (by simp) (.cells (rd0 (.slice (some ⟨(w.alloc (.cells (rd0 (.slice none 0 0)) 138)).heap.size, 0, none⟩) 1 1)) 138))
  rw [hz0] at hP0 hb0
  obtain ⟨wa, hwa⟩ : ∃ wa, w.alloc (.cells (rd0 (.slice none 0 0)) 138) = wa := ⟨_, rfl⟩
  rw [hwa] at hP0 hb0 hs0 hn0 hz0
  obtain ⟨w0, hw0⟩ : ∃ w0, (wa.alloc (.cells docArr 167)).alloc (.cells (rd0 (.slice (some ⟨w.heap.size + 1, 0, none⟩) 1 1)) 138) = w0 := ⟨_, rfl⟩
  rw [hw0] at hP0 hb0
  have hRw : Row w0 w0.heap.size 1 A m (bcells (l.take 65536)) := hR2.ext (hs0.trans (hb0.mono (by omega)))
  have hPS0 : PS w0 (w.heap.size + 1) (fun _ => none) (w.heap.size + 1 + 1) Pb.start := ⟨_, _, _, _, [docMC], rfl, hP0⟩
  replace hR := Lib.hid hR
  replace hwa := Lib.hid hwa
  replace hw0 := Lib.hid hw0
  replace hPS0 := Lib.hid hPS0
  replace hG := Lib.hid hG
  replace hG0 := Lib.hid hG0
  replace hGG := Lib.hid hGG
  clear hlo hP0 hR2
  go_enter Tryz.func78, Tryz.ntmps78
  go_wp2_with fail
  have hwa' := hwa.out
  have hw0' := hw0.out
  simp only [rd0, docArr] at hwa' hw0'
  rw [hwa', hw0']
  refine (htx w0 hRw).mono ?_
  rintro e w1 ⟨v, rfl, hown, hb1⟩
  obtain ⟨rv0, lv0, pv0, M0, row0, hrow0, hA0⟩ := hPS0.out
  have hz0b : w.heap.size + 1 ≤ w0.heap.size := by have := hb0.size; omega
  have hownB : w1.ownsRow (w.heap.size + 1) 9 1 v ts.length (scells ts) := ⟨hown.1, hown.2.imp id (fun ⟨g, cc, cur, e1, e2, e3⟩ => ⟨g, cc, cur, e1, by omega, e3⟩)⟩
  have hA1 := hA0.ext_in (a := .row 9 1 v ts.length (scells ts)) hb1 hownB (fun g hg => (World.ownsRow.lt hown g hg).1)
  obtain ⟨B, hBB⟩ : ∃ B, w.heap.size + 1 = B := ⟨_, rfl⟩
  obtain ⟨E, hE⟩ : ∃ E, shiftE (.row 9 1 v ts.length (scells ts)) (fun _ => none) = E := ⟨_, rfl⟩
  have hE0 : E 0 = some (.row 9 1 v ts.length (scells ts)) := by rw [← hE]; rfl
  rw [hBB] at hA1 hz0b hb0 ⊢
  rw [hE] at hA1
  have hB1 : Below B wa w1 := hb0.trans (hb1.mono hz0b)
  obtain ⟨vA, vc, rfl, hvc⟩ := own_shape hown
  obtain ⟨R, hRR⟩ : ∃ R, B + 1 = R := ⟨_, rfl⟩
  rw [hRR] at hA1 ⊢
  have hP1 := Lib.hid (⟨rv0, lv0, pv0, M0, row0, hrow0, hA1⟩ : PS w1 B E R Pb.start)
  replace hB1 := Lib.hid hB1
  replace hE0 := Lib.hid hE0
  replace hE := Lib.hid hE
  replace hBB := Lib.hid hBB
  replace hRR := Lib.hid hRR
  have hts5 : ts.length ≤ 65536 := by omega
  clear hown hb1 hb0 hA1 hA0 hrow0 hownB hwa' hw0' htx hz0b
  go_wp2_with fail
  go_loopw [17] (fun u wr => ∃ (k : Nat) (r1 : Pb.Rd), k ≤ ts.length ∧ u = .int .i64 (k : Int) ∧ Hid (PS wr B E R r1) ∧ Hid (Pb.Sz (2100 * k) k r1) ∧ Hid (Pb.Doc r1.row) ∧ Hid (Pb.lines ((ts.drop k).map Ru.text) k r1 = G0) ∧ Hid (Below B wa wr)) (fun u _ => ts.length - (intOf u).toNat)
  case atStart => exact ⟨0, Pb.start, by omega, rfl, hP1, Lib.hid start_sz, Lib.hid (by unfold Pb.Doc; rfl), hG0, hB1⟩
  case round =>
    obtain ⟨k, r1, hk, rfl, hP, hz, hd, hgl, hb⟩ := hrel
    rcases Nat.lt_or_eq_of_le hk with hlt | hke
    · obtain ⟨rv, lv, pv, M, row, hrow, hA⟩ := hP.out
      have hBr : B ≤ wr.heap.size := by have := rd_facts hA; omega
      have hrw := hA.hp.own (k := .ext 0) hE0.out
      obtain ⟨g, gc, cur, hv, _, _, hgw, _⟩ := own_block hrw (by omega)
      cases hv
      obtain ⟨s, hs⟩ : ∃ s, ts[k] = s := ⟨_, rfl⟩
      have hx := own_cell (j := k) (u := .string (bs s)) hrw (by unfold scells; rw [List.getElem?_map, List.getElem?_eq_getElem hlt, hs]; rfl)
      have hsl := hll s (by rw [← hs]; exact List.getElem_mem hlt)
      have hst := plines_at hlt r1
      rw [hs, hgl.out] at hst
      have hrb := run_bytes s
      have htl := Ru.text_len s
      have hbb := below_bytes wr (bs s)
      have htt := text_any s (some ⟨wr.heap.size, 0, none⟩) (grownCap wr s.length 0 5) (Lib.bytesWorld wr 5 (bs s)) (row_bytes _ s) (by omega)
      have hln := fun wz hz' => ptakeLine wz B E R r1 hz' hz.out hd.out (by omega) (by omega) k (by omega) (Ru.text s) (by omega)
      replace hs := Lib.hid hs
      replace hst := Lib.hid hst
      replace hrw := Lib.hid hrw
      replace hA := Lib.hid hA
      replace hln := Lib.hid hln
      replace hbb := Lib.hid hbb
      replace hrow := Lib.hid hrow
      have hgl1 := (Array.getElem?_eq_some_iff.1 hgw).1
      clear hgw
      have hk1 : (k : Int) < (ts.length : Int) := by omega
      have hk0 : (0 : Int) ≤ (k : Int) := by omega
      have hcv := hrb
      clear hrb
      go_wp2_with fail
      refine htt.mono ?_
      rintro e w3 ⟨rfl, hb3⟩
      have hb23 := ext_trans hbb.out hb3
      have hP3 := Lib.hid (⟨rv, lv, pv, M, row, hrow.out, PAt.mk (hA.out.hp.ext hb23) hA.out.good hA.out.old⟩ : PS w3 B E R r1)
      have hB3 := Lib.hid (hb.out.trans (hb23.mono hBr))
      clear hcv htt hb23 hb3
      go_wp2_with fail
      refine (hln.out _ hP3.out).mono ?_
      rintro e w4 ⟨rfl, ⟨hP4, hz4, hd4⟩, hb4⟩
      replace hP4 := Lib.hid hP4
      replace hz4 := Lib.hid hz4
      replace hd4 := Lib.hid hd4
      replace hb4 := Lib.hid (hB3.out.trans hb4)
      go_wp2_with fail
      go_roundw
      case rel => exact ⟨k + 1, _, by omega, by go_num, hP4, Lib.hid (by have := hz4.out; rw [show 2100 * (k + 1) = 2100 * k + 2100 from by omega]; exact this), hd4, Lib.hid hst.out.symm, hb4⟩
      case measure => simp [intOf]; omega
    · have hG1 := hgl.out
      rw [plines_end (by omega)] at hG1
      have hto := fun wz hz' => pcloseTo wz B E R r1 hz' hz.out (by omega) (by omega) 1 (by omega)
      have hres : Pb.Sz 800000000 0 (Pb.closeTo 1 r1) ∧ Pb.Doc (Pb.closeTo 1 r1).row := ⟨(closeTo_sz hz.out 1 0).mono (by omega) (Nat.le_refl _), closeTo_doc (Nat.le_refl _) hz.out.pos hd.out⟩
      rw [show Pb.closeTo 1 r1 = G from by rw [hG1]; exact hGG.out] at hto hres
      replace hres := Lib.hid hres
      replace hto := Lib.hid hto
      replace hG1 := Lib.hid hG1
      have hkn : ¬ (k : Int) < (ts.length : Int) := by omega
      clear hke
      go_wp2_with fail
      refine (hto.out _ hP.out).mono ?_
      rintro e w5 ⟨rfl, hP5, hb5⟩
      obtain ⟨rv, lv, pv, M, row, hrow, hA⟩ := hP5
      rw [← hE.out] at hA
      have hA5 := hA.ext_out
      obtain ⟨rA, rc, hrv, _⟩ := own_shape (hA5.hp.own (k := .row) rfl)
      obtain ⟨lA, lc, hlv, _⟩ := own_shape (hA5.hp.own (k := .lns) rfl)
      obtain ⟨pA, pc, hpv, _⟩ := own_shape (hA5.hp.own (k := .pls) rfl)
      obtain ⟨rn, hrn⟩ : ∃ rn, row.length = rn := ⟨_, rfl⟩
      obtain ⟨ln, hln⟩ : ∃ ln, gl.lines.length = ln := ⟨_, rfl⟩
      obtain ⟨pn, hpn⟩ : ∃ pn, G.places.length = pn := ⟨_, rfl⟩
      rw [hgl0.out] at hA5 hlv
      rw [hrn] at hrv
      rw [hln] at hlv
      rw [hpn] at hpv
      obtain ⟨hR1, hR2, _, d0, d1, d2, d3, d4, d5, d6, d7, d8, d9⟩ := rd_facts hA5
      rw [hrv] at d0
      rw [hlv] at d3
      rw [hpv] at d9
      have hbw5 := hb.out.trans hb5
      have hn5 := (hbw5.block w.heap.size (by have := hBB.out; omega)).trans hn0
      have z0 := cell_of hn5 (j := 0) rfl
      have z1 := cell_of hn5 (j := 1) rfl
      have z2 := cell_of hn5 (j := 2) rfl
      have z3 := cell_of hn5 (j := 3) rfl
      have z4 := cell_of hn5 (j := 4) rfl
      have z5 := cell_of hn5 (j := 5) rfl
      have z6 := cell_of hn5 (j := 6) rfl
      have z7 := cell_of hn5 (j := 7) rfl
      have z8 := cell_of hn5 (j := 8) rfl
      have z9 := cell_of hn5 (j := 9) rfl
      have zf := blk_free hn5
      have hlow := hA5.hp.low (ten_grown w5 w.heap.size (.slice rA rn rc) (.int .i64 (gl.kind : Int)) (.int .i64 (gl.line : Int)) (.slice lA ln lc) (.int .u8 (gl.op.c.toNat : Int)) (.int .i64 (gl.op.n : Int)) (.int .i64 (gl.op.ind : Int)) (.string (bs gl.op.info)) (.bool gl.ended) (.slice pA pn pc)) (by have := hBB.out; omega)
      have hW := ten_at hn5 (.slice rA rn rc) (.int .i64 (gl.kind : Int)) (.int .i64 (gl.line : Int)) (.slice lA ln lc) (.int .u8 (gl.op.c.toNat : Int)) (.int .i64 (gl.op.n : Int)) (.int .i64 (gl.op.ind : Int)) (.string (bs gl.op.info)) (.bool gl.ended) (.slice pA pn pc)
      have hBw5 : Below w.heap.size w w5 := hs0.trans (hbw5.mono (by have := hBB.out; omega))
      have hBW : Below w.heap.size w (ten w5 w.heap.size (.slice rA rn rc) (.int .i64 (gl.kind : Int)) (.int .i64 (gl.line : Int)) (.slice lA ln lc) (.int .u8 (gl.op.c.toNat : Int)) (.int .i64 (gl.op.n : Int)) (.int .i64 (gl.op.ind : Int)) (.string (bs gl.op.info)) (.bool gl.ended) (.slice pA pn pc)) := ten_below hBw5 (Nat.le_refl _) _ _ _ _ _ _ _ _ _ _
      have hfinA := Lib.hid (PAt.mk hlow hA5.good hA5.old)
      replace hA5 := Lib.hid hA5
      replace hA := Lib.hid hA
      replace hn5 := Lib.hid hn5
      replace hlow := Lib.hid hlow
      replace hBw5 := Lib.hid hBw5
      replace hbw5 := Lib.hid hbw5
      replace hrow := Lib.hid hrow
      replace hrv := Lib.hid hrv
      replace hlv := Lib.hid hlv
      replace hpv := Lib.hid hpv
      replace hn0 := Lib.hid hn0
      clear hrn hln hpn
      go_wp2_with fail
      change bodyPost _ _ _ _ _ (ten w5 w.heap.size (.slice rA rn rc) (.int .i64 (gl.kind : Int)) (.int .i64 (gl.line : Int)) (.slice lA ln lc) (.int .u8 (gl.op.c.toNat : Int)) (.int .i64 (gl.op.n : Int)) (.int .i64 (gl.op.ind : Int)) (.string (bs gl.op.info)) (.bool gl.ended) (.slice pA pn pc))
      generalize ten w5 w.heap.size (.slice rA rn rc) (.int .i64 (gl.kind : Int)) (.int .i64 (gl.line : Int)) (.slice lA ln lc) (.int .u8 (gl.op.c.toNat : Int)) (.int .i64 (gl.op.n : Int)) (.int .i64 (gl.op.ind : Int)) (.string (bs gl.op.info)) (.bool gl.ended) (.slice pA pn pc) = wz at hW hBW hfinA ⊢
      have y0 := cell_of hW (j := 0) rfl
      have y1 := cell_of hW (j := 1) rfl
      have y2 := cell_of hW (j := 2) rfl
      have y3 := cell_of hW (j := 3) rfl
      have y4 := cell_of hW (j := 4) rfl
      have y5 := cell_of hW (j := 5) rfl
      have y6 := cell_of hW (j := 6) rfl
      have y7 := cell_of hW (j := 7) rfl
      have y8 := cell_of hW (j := 8) rfl
      have y9 := cell_of hW (j := 9) rfl
      clear z0 z1 z2 z3 z4 z5 z6 z7 z8 z9 zf d0 d1 d2 d3 d4 d5 d6 d7 d8 d9
      refine bodyPost_ret (v := .agg #[.slice rA rn rc, .int .i64 (gl.kind : Int), .int .i64 (gl.line : Int), .slice lA ln lc, .int .u8 (gl.op.c.toNat : Int), .int .i64 (gl.op.n : Int), .int .i64 (gl.op.ind : Int), .string (bs gl.op.info), .bool gl.ended, .slice pA pn pc]) (by rw [results_cell1 rfl]; go_simp) rfl ?_
      have hfin := hfinA.out
      rw [hBB.out]
      exact ⟨R, rv, lv, pv, M, row, by rw [hrv.out, hlv.out, hpv.out], hrow.out, hfin, hres.out.1, hres.out.2, hBW⟩
end Go.Proofs.YtmmgfoepfapnkaaGreatDoor

namespace Go.Proofs.YtmmgfoepfapnkaaGreatDoor
open Go.RowKit

theorem Ck.judge_none {out : List Ck.Def} {info : List UInt8} (h : At.read info = none) : Ck.judge out info = (13, At.zeroA) := by unfold Ck.judge; rw [h]
theorem Ck.judge_nokey {out : List Ck.Def} {info : List UInt8} {a : At.Attr} (h : At.read info = some a) (hk : a.name ++ a.file = []) : Ck.judge out info = (13, a) := by unfold Ck.judge; rw [h]; simp only; rw [if_pos hk]
theorem Ck.judge_bad {out : List Ck.Def} {info : List UInt8} {a : At.Attr} (h : At.read info = some a) (hk : a.name ++ a.file ≠ []) (hf : Ck.fits out a (a.name ++ a.file) = false) : Ck.judge out info = (14, a) := by
  unfold Ck.judge
  unfold Ck.fits at hf
  rw [h]; simp only; rw [if_neg hk]
  cases hp : Ck.first out (a.name ++ a.file) with
  | none => rw [hp] at hf; simp only at hf ⊢; rw [if_pos (by simpa using hf)]
  | some f =>
    rw [hp] at hf; simp only at hf ⊢
    rw [if_pos]
    cases ha : a.append with
    | false => exact .inl rfl
    | true => rw [ha, Bool.true_and] at hf; exact .inr (by simpa using hf)
theorem Ck.judge_good {out : List Ck.Def} {info : List UInt8} {a : At.Attr} (h : At.read info = some a) (hk : a.name ++ a.file ≠ []) (hf : Ck.fits out a (a.name ++ a.file) = true) :
    (200 ≤ out.length → Ck.judge out info = (3, a)) ∧ (out.length < 200 → ∃ a', Ck.judge out info = (0, a') ∧ ∀ i s p, Ck.lay out (Ck.mkDef i s p a) = Ck.mkDef i s p a') := by
  unfold Ck.judge
  unfold Ck.fits at hf
  rw [h]; simp only; rw [if_neg hk]
  cases hp : Ck.first out (a.name ++ a.file) with
  | none =>
    rw [hp] at hf; simp only at hf ⊢
    rw [if_neg (by simpa using hf)]
    refine ⟨fun h2 => by rw [if_pos h2], fun h2 => ⟨a, by rw [if_neg (by omega)], fun i s p => ?_⟩⟩
    unfold Ck.lay Ck.mkDef
    simp only
    rw [hp]
  | some f =>
    rw [hp] at hf; simp only at hf ⊢
    rw [Bool.and_eq_true] at hf
    rw [if_neg (by rintro (h2 | h2); · rw [hf.1] at h2; cases h2
                   · exact h2 (by simpa using hf.2))]
    refine ⟨fun h2 => by rw [if_pos h2], fun h2 => ⟨_, by rw [if_neg (by omega)], fun i s p => ?_⟩⟩
    unfold Ck.lay Ck.mkDef
    simp only
    rw [hp]
theorem Ck.fences_at {F : List Bk.Pl} {j : Nat} (hj : j < F.length) (i : Nat) (s : Ck.Src) (out : List Ck.Def) : Ck.fences i s (F.drop j) out = if Ck.piece F[j] = false then Ck.fences i s (F.drop (j + 1)) out else
    if (Ck.judge out F[j].op.info).1 = 0 then Ck.fences i s (F.drop (j + 1)) (out ++ [Ck.mkDef i s F[j] (Ck.judge out F[j].op.info).2])
    else (⟨(Ck.judge out F[j].op.info).1, s.path, F[j].line, if (Ck.judge out F[j].op.info).1 = 14 then (Ck.judge out F[j].op.info).2.name ++ (Ck.judge out F[j].op.info).2.file else []⟩, out) := by
  rw [List.drop_eq_getElem_cons hj, Ck.fences]
theorem Ck.fences_end {F : List Bk.Pl} {j : Nat} (hj : ¬ j < F.length) (i : Nat) (s : Ck.Src) (out : List Ck.Def) : Ck.fences i s (F.drop j) out = (Ck.noF, out) := by
  rw [List.drop_eq_nil_of_le (by omega), Ck.fences]
theorem At.read_len {l : List UInt8} {a : At.Attr} (h : At.read l = some a) : a.lang.length ≤ l.length ∧ a.name.length ≤ 60 ∧ a.file.length ≤ 60 ∧ a.style.length ≤ 4 := by
  unfold At.read at h
  obtain ⟨b, ha, h⟩ := Option.bind_eq_some_iff.1 h
  split at h
  · cases h
  · cases h
    obtain ⟨⟨h1, h2, h3⟩, hlang⟩ := At.steps_said _ _ _ ⟨.inl rfl, .inl rfl, .inl rfl⟩ ha
    have h4 : (At.pairs l).1.length ≤ l.length := by rw [At.pairs_run]; exact At.run_lang_len _ _ _ _ _ _ (Nat.zero_le _) (Nat.le_refl _)
    simp only at hlang
    refine ⟨by rw [hlang]; exact h4, ?_, ?_, ?_⟩
    · rcases h1 with h | h
      · rw [h]; simp
      · exact At.name_len h
    · rcases h2 with h | h
      · rw [h]; simp
      · exact At.name_len h
    · rcases h3 with h | h
      · rw [h]; simp
      · exact At.style_len h
/-- a document's fences, as the program reads them -/
def Ck.places (l : List UInt8) : List Bk.Pl := (Pb.read (Pb.linesOf l)).places
theorem Ck.texts_short (l : List UInt8) : ∀ s ∈ Pb.linesOf l, s.length ≤ 262144 := by
  intro s hs
  unfold Pb.linesOf at hs
  obtain ⟨t, ht, rfl⟩ := List.mem_map.1 hs
  have h1 := pline_len t ht
  have h2 := Ru.text_len t
  rw [List.length_take] at h1
  omega
theorem Ck.places_lay (l : List UInt8) : Pb.Lay 262390 (Pb.linesOf l).length (Pb.read (Pb.linesOf l)) := Pb.read_lay _ (fun s hs => by have := Ck.texts_short l s hs; omega)
theorem Ck.linesOf_len {l : List UInt8} (h : l.length ≤ 65536) : (Pb.linesOf l).length = (Ln.lines l 0).length := by
  unfold Pb.linesOf
  rw [List.length_map, List.take_of_length_le h, Ln.lines_texts]
/-- a piece's lines lie within its document -/
theorem Ck.piece_in {l : List UInt8} (h : l.length ≤ 65536) {p : Bk.Pl} (hp : p ∈ Ck.places l) (hpc : Ck.piece p = true) : p.first ≤ p.last ∧ p.last < (Ln.lines l 0).length ∧ p.op.info.length ≤ 262390 := by
  have hl := (Ck.places_lay l).pls p hp
  rw [Ck.linesOf_len h] at hl
  obtain ⟨_, h2, _, h4, h5⟩ := hl
  unfold Ck.piece at hpc
  rw [Bool.and_eq_true, Bool.and_eq_true] at hpc
  exact ⟨h2, h4 hpc.1.1, h5⟩
theorem Ck.at_eq {l : List UInt8} {k : Nat} (hk : k < (Ln.lines l 0).length) : Ck.at_ (Ln.lines l 0) k = (Ln.lines l 0)[k].1 := by
  unfold Ck.at_; rw [List.getElem?_eq_getElem hk]; rfl
end Go.Proofs.YtmmgfoepfapnkaaGreatDoor

namespace Go.Proofs.YtmmgfoepfapnkaaGreatDoor

def Ck.sum (ls : List (List UInt8)) : Nat := (ls.map List.length).sum
theorem Ln.endLen_max (l : List UInt8) : Ln.endLen l ≤ 2 := by unfold Ln.endLen; split <;> simp
theorem Ln.texts_sum (l : List UInt8) (k : Nat) (hk : k ≤ l.length) : k + Ck.sum (Ln.texts l k) ≤ l.length ∧ l.length ≤ k + Ck.sum (Ln.texts l k) + 2 * (Ln.texts l k).length := by
  by_cases h : k < l.length
  · have h1 := Ln.lt_nxt h
    have h2 := Ln.nxt_le (l := l) (k := k) (by omega)
    have h3 := Ln.eol_le (l := l) (k := k) (by omega)
    have h4 := Ln.le_eol l k
    have h5 := Ln.endLen_max (l.drop (Ln.eol l k))
    have ih := Ln.texts_sum l (Ln.nxt l k) h2
    rw [Ln.texts_step h]
    have e : (mid l k (Ln.eol l k)).length = Ln.eol l k - k := by unfold mid; rw [List.length_take, List.length_drop]; omega
    have e2 : Ck.sum (mid l k (Ln.eol l k) :: Ln.texts l (Ln.nxt l k)) = (Ln.eol l k - k) + Ck.sum (Ln.texts l (Ln.nxt l k)) := by unfold Ck.sum; rw [List.map_cons, List.sum_cons, e]
    have e3 : Ln.nxt l k = Ln.eol l k + Ln.endLen (l.drop (Ln.eol l k)) := rfl
    rw [e2, List.length_cons]
    omega
  · rw [Ln.texts_end h]
    have : Ck.sum [] = 0 := rfl
    rw [this]
    simp only [List.length_nil]
    omega
termination_by l.length - k
decreasing_by have := Ln.lt_nxt h; omega

namespace Ck
structure Sp (l : List Src) (d : Def) : Prop where
  doc : d.doc < l.length
  ord : d.frm ≤ d.upto
  within : ∀ s, l[d.doc]? = some s → d.upto ≤ s.data.length
  key : d.key = d.attr.name ++ d.attr.file
  has : d.key ≠ []
  one : d.attr.name = [] ∨ d.attr.file = []
  low : sum d.lines ≤ d.upto - d.frm
  high : d.upto - d.frm ≤ sum d.lines + 2 * d.lines.length
  ok : DOk d
  few : d.lines.length ≤ 65536
  short : d.upto ≤ 65536
def Apart (b a : Def) : Prop := b.doc ≤ a.doc ∧ (b.doc = a.doc → b.upto < a.frm) ∧ (b.key = a.key → a.attr.style = b.attr.style ∧ a.attr.file = b.attr.file)
structure Right (l : List Src) (out : List Def) : Prop where
  each : ∀ d ∈ out, Sp l d
  pair : out.Pairwise Apart

theorem read_one {info : List UInt8} {a : At.Attr} (h : At.read info = some a) : a.name = [] ∨ a.file = [] := by
  unfold At.read at h
  cases hs : At.steps (At.pairs info).2.1 ⟨(At.pairs info).1, [], [], [], false, false⟩ with
  | none => rw [hs] at h; cases h
  | some b =>
    rw [hs] at h
    simp only [Option.bind_some] at h
    split at h
    · cases h
    · rename_i hn
      injection h with h
      subst h
      rcases Decidable.em (b.name = []) with e | e
      · exact .inl e
      · refine .inr (Decidable.byContradiction fun e2 => hn (.inr ⟨e, e2⟩))
theorem isF_iff (a : At.Attr) : isF a = true ↔ a.file ≠ [] := by unfold isF; exact decide_eq_true_iff
/-- a Def's own lines -/
theorem mk_sp {l : List Src} {i : Nat} {s : Src} (hs : l[i]? = some s) (hl : s.data.length ≤ 65536) {p : Bk.Pl} (hp : p ∈ places s.data) (hpc : piece p = true) {a : At.Attr} (h1 : a.name = [] ∨ a.file = []) (h2 : a.name ++ a.file ≠ [])
    (h3 : a.lang.length ≤ 1000000000 ∧ a.name.length ≤ 60 ∧ a.file.length ≤ 60 ∧ a.style.length ≤ 1000000000) : Sp l (mkDef i s p a) := by
  obtain ⟨k1, k2, _⟩ := piece_in hl hp hpc
  have hi : i < l.length := (List.getElem?_eq_some_iff.1 hs).1
  have e1 := at_eq (l := s.data) (k := p.first) (by omega)
  have e2 := at_eq (l := s.data) (k := p.last) k2
  have hsub := Ln.texts_sub k1 k2
  have hlt : p.first < p.last → (Ln.lines s.data 0)[p.first].1 < (Ln.lines s.data 0)[p.last].1 := fun h => Ln.at_lt h k2
  have hle : (Ln.lines s.data 0)[p.first].1 ≤ (Ln.lines s.data 0)[p.last].1 := by
    rcases Nat.lt_or_eq_of_le k1 with h | h
    · exact Nat.le_of_lt (hlt h)
    · simp only [h]; exact Nat.le_refl _
  have hw := Ln.lines_within s.data 0 _ (List.getElem_mem k2)
  have hml : (mid s.data (Ln.lines s.data 0)[p.first].1 (Ln.lines s.data 0)[p.last].1).length = (Ln.lines s.data 0)[p.last].1 - (Ln.lines s.data 0)[p.first].1 := by
    unfold mid; rw [List.length_take, List.length_drop]; omega
  have hsum := Ln.texts_sum (mid s.data (Ln.lines s.data 0)[p.first].1 (Ln.lines s.data 0)[p.last].1) 0 (by omega)
  rw [hsub, hml] at hsum
  have hmm : (mid (Ln.texts s.data 0) p.first p.last).length ≤ 65536 := by
    have := Ln.texts_len s.data 0
    unfold mid; rw [List.length_take, List.length_drop]; omega
  refine ⟨hi, ?_, fun s' hs' => ?_, rfl, h2, h1, ?_, ?_, ⟨?_, h3.1, by show a.name.length ≤ _; omega, by show a.file.length ≤ _; omega, h3.2.2.2, fun t ht => ?_, Nat.le_trans hmm (by decide)⟩, hmm, ?_⟩
  · show at_ _ _ ≤ at_ _ _
    rw [e1, e2]; exact hle
  · show at_ _ _ ≤ _
    have hs'' : l[i]? = some s' := hs'
    rw [hs] at hs''
    injection hs'' with hs''
    subst hs''
    rw [e2]; omega
  · show sum (mid (Ln.texts s.data 0) p.first p.last) ≤ at_ _ _ - at_ _ _
    rw [e1, e2]; omega
  · show at_ _ _ - at_ _ _ ≤ sum (mid (Ln.texts s.data 0) p.first p.last) + _
    rw [e1, e2]
    show _ ≤ _ + 2 * (mid (Ln.texts s.data 0) p.first p.last).length
    omega
  · show (a.name ++ a.file).length ≤ _
    rw [List.length_append]; omega
  · have ht' : t ∈ Ln.texts s.data 0 := by
      have : t ∈ mid (Ln.texts s.data 0) p.first p.last := ht
      unfold mid at this
      exact List.mem_of_mem_drop (List.mem_of_mem_take this)
    unfold Ln.texts at ht'
    obtain ⟨x, _, rfl⟩ := List.mem_map.1 ht'
    unfold mid
    rw [List.length_take, List.length_drop]
    omega
  · show at_ _ _ ≤ _
    rw [e2]; omega

theorem first_mem {out : List Def} {k : List UInt8} {f : Def} (h : first out k = some f) : f ∈ out ∧ f.key = k := by
  unfold first at h
  exact ⟨List.mem_of_find?_eq_some h, by simpa using List.find?_some h⟩
theorem first_none {out : List Def} {k : List UInt8} (h : first out k = none) : ∀ b ∈ out, b.key ≠ k := by
  unfold first at h
  rw [List.find?_eq_none] at h
  intro b hb e
  exact h b hb (by simpa using e)
/-- the first of a key, and any other one of it -/
theorem first_pair : ∀ {out : List Def}, out.Pairwise Apart → ∀ {k : List UInt8} {f : Def}, first out k = some f → ∀ b ∈ out, b.key = k → b = f ∨ Apart f b
  | [], _, _, _, h, _, _, _ => by cases h
  | d :: r, hp, k, f, h, b, hb, hk => by
    rw [List.pairwise_cons] at hp
    unfold first at h
    rw [List.find?_cons] at h
    cases hd : decide (d.key = k) with
    | true =>
      rw [hd] at h
      simp only [Option.some.injEq] at h
      subst h
      rcases List.mem_cons.1 hb with e | e
      · exact .inl e
      · exact .inr (hp.1 b e)
    | false =>
      rw [hd] at h
      simp only at h
      rcases List.mem_cons.1 hb with e | e
      · subst e; simp [hk] at hd
      · exact first_pair hp.2 h b e hk
theorem judge_cases {out : List Def} {info : List UInt8} (h : (judge out info).1 = 0) : ∃ a, At.read info = some a ∧ a.name ++ a.file ≠ [] ∧ out.length < 200 ∧
    ((first out (a.name ++ a.file) = none ∧ judge out info = (0, a)) ∨ ∃ f, first out (a.name ++ a.file) = some f ∧ isF f.attr = isF a ∧ judge out info = (0, { a with style := f.attr.style, noline := f.attr.noline, lang := f.attr.lang })) := by
  unfold judge at h ⊢
  cases hr : At.read info with
  | none => rw [hr] at h; cases h
  | some a =>
    rw [hr] at h
    simp only at h ⊢
    refine ⟨a, rfl, ?_⟩
    by_cases hk : a.name ++ a.file = []
    · rw [if_pos hk] at h; cases h
    · rw [if_neg hk] at h
      refine ⟨hk, ?_⟩
      rw [if_neg hk]
      cases hf : first out (a.name ++ a.file) with
      | none =>
        rw [hf] at h
        simp only at h ⊢
        split at h
        · cases h
        · rename_i h1
          split at h
          · cases h
          · rename_i h2
            rw [if_neg h1, if_neg h2]
            exact ⟨by omega, .inl ⟨trivial, rfl⟩⟩
      | some f =>
        rw [hf] at h
        simp only at h ⊢
        split at h
        · cases h
        · rename_i h1
          split at h
          · cases h
          · rename_i h2
            rw [if_neg h1, if_neg h2]
            exact ⟨by omega, .inr ⟨f, rfl, Decidable.byContradiction fun e => h1 (.inr e), rfl⟩⟩
/-- what a judged info says -/
theorem judge_right {l : List Src} {out : List Def} (hr : Right l out) {info : List UInt8} (hi : info.length ≤ 1000000) (h0 : (judge out info).1 = 0) :
    ((judge out info).2.name = [] ∨ (judge out info).2.file = []) ∧ (judge out info).2.name ++ (judge out info).2.file ≠ [] ∧
    ((judge out info).2.lang.length ≤ 1000000000 ∧ (judge out info).2.name.length ≤ 60 ∧ (judge out info).2.file.length ≤ 60 ∧ (judge out info).2.style.length ≤ 1000000000) ∧
    ∀ b ∈ out, b.key = (judge out info).2.name ++ (judge out info).2.file → (judge out info).2.style = b.attr.style ∧ (judge out info).2.file = b.attr.file := by
  obtain ⟨a, ha, hk, _, hc⟩ := judge_cases h0
  have h1 := read_one ha
  obtain ⟨g1, g2, g3, g4⟩ := At.read_len ha
  rcases hc with ⟨hf, e⟩ | ⟨f, hf, hF, e⟩
  · rw [e]
    exact ⟨h1, hk, ⟨by show a.lang.length ≤ _; omega, g2, g3, by show a.style.length ≤ _; omega⟩, fun b hb hbk => absurd hbk (first_none hf b hb)⟩
  · rw [e]
    obtain ⟨hfm, hfk⟩ := first_mem hf
    have hfs := hr.each f hfm
    refine ⟨h1, hk, ⟨hfs.ok.lang, g2, g3, hfs.ok.style⟩, fun b hb hbk => ?_⟩
    have hbk' : b.key = a.name ++ a.file := hbk
    have hbs := hr.each b hb
    have hap : b.attr.style = f.attr.style ∧ b.attr.file = f.attr.file := by
      rcases first_pair hr.pair hf b hb hbk' with e | e
      · rw [e]; exact ⟨rfl, rfl⟩
      · exact e.2.2 (hfk.trans hbk'.symm)
    refine ⟨hap.1.symm, ?_⟩
    show a.file = b.attr.file
    have hbF : isF b.attr = isF a := by rw [← hF]; unfold isF; rw [hap.2]
    have hkk : b.attr.name ++ b.attr.file = a.name ++ a.file := by rw [← hbs.key]; exact hbk'
    by_cases hz : a.file = []
    · have : ¬ isF b.attr = true := by rw [hbF, isF_iff]; exact fun h => h hz
      rw [isF_iff] at this
      have : b.attr.file = [] := Decidable.byContradiction this
      rw [hz, this]
    · have hb1 : isF b.attr = true := by rw [hbF, isF_iff]; exact hz
      rw [isF_iff] at hb1
      have ha0 : a.name = [] := h1.resolve_right hz
      have hb0 : b.attr.name = [] := hbs.one.resolve_right hb1
      rw [ha0, hb0] at hkk
      exact hkk.symm
/-- a document's fences -/
theorem fences_right {l : List Src} {i : Nat} {s : Src} (hs : l[i]? = some s) (hl : s.data.length ≤ 65536) : ∀ (F : List Bk.Pl) (out : List Def), (∀ p ∈ F, p ∈ places s.data ∧ p.first = p.line + 1) → F.Pairwise (fun p q => p.last ≤ q.line) →
    Right l out → (∀ b ∈ out, b.doc ≤ i ∧ (b.doc = i → ∀ q ∈ F, piece q = true → b.upto < at_ (Ln.lines s.data 0) q.first)) → (fences i s F out).1.code = 0 → Right l (fences i s F out).2 ∧ ∀ b ∈ (fences i s F out).2, b.doc ≤ i
  | [], out, _, _, hr, hb, _ => ⟨hr, fun b h => (hb b h).1⟩
  | p :: F, out, hF, hp, hr, hb, h0 => by
    rw [List.pairwise_cons] at hp
    unfold fences at h0 ⊢
    by_cases hpc : piece p = false
    · rw [if_pos hpc] at h0 ⊢
      exact fences_right hs hl F out (fun q hq => hF q (List.mem_cons_of_mem _ hq)) hp.2 hr (fun b h => ⟨(hb b h).1, fun e q hq => (hb b h).2 e q (List.mem_cons_of_mem _ hq)⟩) h0
    · rw [if_neg hpc] at h0 ⊢
      have hpc' : piece p = true := by simpa using hpc
      by_cases hj : (judge out p.op.info).1 = 0
      · rw [if_pos hj] at h0 ⊢
        obtain ⟨hpm, hpf⟩ := hF p (List.mem_cons_self)
        obtain ⟨k1, k2, k3⟩ := piece_in hl hpm hpc'
        obtain ⟨j1, j2, j3, j4⟩ := judge_right hr (Nat.le_trans k3 (by decide)) hj
        have hsp := mk_sp hs hl hpm hpc' j1 j2 j3
        refine fences_right hs hl F _ (fun q hq => hF q (List.mem_cons_of_mem _ hq)) hp.2 ⟨fun d hd => ?_, ?_⟩ (fun b hbm => ?_) h0
        · rcases List.mem_append.1 hd with h | h
          · exact hr.each d h
          · rw [List.mem_singleton.1 h]; exact hsp
        · rw [List.pairwise_append]
          refine ⟨hr.pair, List.pairwise_singleton _ _, fun b hbm d hd => ?_⟩
          rw [List.mem_singleton.1 hd]
          exact ⟨(hb b hbm).1, fun e => (hb b hbm).2 e p (List.mem_cons_self) hpc', fun e => j4 b hbm e⟩
        · rcases List.mem_append.1 hbm with h | h
          · exact ⟨(hb b h).1, fun e q hq => (hb b h).2 e q (List.mem_cons_of_mem _ hq)⟩
          · rw [List.mem_singleton.1 h]
            refine ⟨Nat.le_refl _, fun _ q hq hqc => ?_⟩
            obtain ⟨hqm, hqf⟩ := hF q (List.mem_cons_of_mem _ hq)
            obtain ⟨q1, q2, _⟩ := piece_in hl hqm hqc
            show at_ _ _ < at_ _ _
            have hpq := hp.1 q hq
            rw [at_eq k2, at_eq (by omega)]
            exact Ln.at_lt (by omega) (by omega)
      · rw [if_neg hj] at h0
        exact absurd h0 hj
theorem docs_right {l : List Src} (hl : ∀ s ∈ l, s.data.length ≤ 65536) : ∀ (r : List Src) (i : Nat) (out : List Def), l.drop i = r → Right l out → (∀ b ∈ out, b.doc < i) → (docs places i r out).1.code = 0 → Right l (docs places i r out).2
  | [], _, _, _, hr, _, _ => hr
  | s :: r, i, out, hd, hr, hb, h0 => by
    have hs : l[i]? = some s := by have := congrArg (fun x => x[0]?) hd; simpa using this
    have hdr : l.drop (i + 1) = r := by rw [← List.drop_drop, hd]; rfl
    have hsm : s ∈ l := List.mem_of_getElem? hs
    have hlay := places_lay s.data
    unfold docs at h0 ⊢
    by_cases hf : (fences i s (places s.data) out).1.code = 0
    · rw [if_pos hf] at h0 ⊢
      obtain ⟨g1, g2⟩ := fences_right hs (hl s hsm) (places s.data) out (fun p hp => ⟨hp, (hlay.pls p hp).1⟩) hlay.ord hr (fun b hbm => ⟨Nat.le_of_lt (hb b hbm), fun e => by have := hb b hbm; omega⟩) hf
      exact docs_right hl r (i + 1) _ hdr g1 (fun b h => by have := g2 b h; omega) h0
    · rw [if_neg hf] at h0
      exact absurd h0 hf
theorem docs_none (F : List UInt8 → List Bk.Pl) : ∀ (r : List Src) (i : Nat) (out : List Def), (docs F i r out).1.code ≠ 0 → (docs F i r out).2 = []
  | [], _, _, h => absurd rfl h
  | s :: r, i, out, h => by
    unfold docs at h ⊢
    by_cases hf : (fences i s (F s.data) out).1.code = 0
    · rw [if_pos hf] at h ⊢
      exact docs_none F r _ _ h
    · rw [if_neg hf]
theorem fences_few {i : Nat} {s : Src} : ∀ (F : List Bk.Pl) (out : List Def), out.length ≤ 200 → (fences i s F out).2.length ≤ 200
  | [], _, h => h
  | p :: F, out, h => by
    unfold fences
    split
    · exact fences_few F out h
    · split
      · rename_i hj
        refine fences_few F _ ?_
        obtain ⟨a, _, _, hc, _⟩ := judge_cases hj
        rw [List.length_append, List.length_singleton]
        omega
      · exact h
theorem docs_few (F : List UInt8 → List Bk.Pl) : ∀ (r : List Src) (i : Nat) (out : List Def), out.length ≤ 200 → (docs F i r out).2.length ≤ 200
  | [], _, _, h => h
  | s :: r, i, out, h => by
    unfold docs
    split
    · exact docs_few F r _ _ (fences_few _ _ h)
    · simp
/-- what comes out: no more than some; nothing where a fault is told; else as pieces are -/
theorem collect_few (l : List Src) : (collect places l).2.length ≤ 200 := by
  unfold collect
  split
  · simp
  · split
    · simp
    · exact docs_few _ _ _ _ (by simp)
theorem collect_none {l : List Src} (h : (collect places l).1.code ≠ 0) : (collect places l).2 = [] := by
  unfold collect at h ⊢
  split
  · rfl
  · rename_i h1
    split
    · rfl
    · rename_i h2
      rw [if_neg h1, if_neg h2] at h
      exact docs_none _ _ _ _ h
theorem collect_right {l : List Src} (h : (collect places l).1.code = 0) : Right l (collect places l).2 := by
  unfold collect at h ⊢
  split
  · exact ⟨fun _ h => (by cases h), List.Pairwise.nil⟩
  · rename_i h1
    split
    · exact ⟨fun _ h => (by cases h), List.Pairwise.nil⟩
    · rename_i h2
      rw [if_neg h1, if_neg h2] at h
      have h65 : ∀ s ∈ l, s.data.length ≤ 65536 := by
        have e : (tooLong l).code = 0 := Decidable.byContradiction h1
        unfold tooLong at e
        split at e
        · cases e
        · cases hf : l.find? (fun s => decide (65536 < s.data.length)) with
          | some x => rw [hf] at e; cases e
          | none =>
            rw [List.find?_eq_none] at hf
            intro s hs
            have := hf s hs
            simp only [decide_eq_true_eq] at this
            omega
      exact docs_right h65 l 0 [] rfl ⟨fun _ h => (by cases h), List.Pairwise.nil⟩ (fun _ h => by cases h) h
theorem collect_ok (l : List Src) : ∀ d ∈ (collect places l).2, Sp l d := by
  by_cases h : (collect places l).1.code = 0
  · exact (collect_right h).each
  · rw [collect_none h]; intro d hd; cases hd

/- keys, each once -/
theorem firsts_nodup : ∀ (ds : List Def) (seen : List (List UInt8)), (kys (firsts seen ds)).Nodup ∧ ∀ k ∈ kys (firsts seen ds), k ∉ seen
  | [], _ => ⟨List.nodup_nil, fun _ h => (by cases h)⟩
  | d :: r, seen => by
    unfold firsts
    by_cases h : d.key ∈ seen
    · rw [if_pos h]; exact firsts_nodup r seen
    · rw [if_neg h]
      obtain ⟨h1, h2⟩ := firsts_nodup r (seen ++ [d.key])
      refine ⟨?_, ?_⟩
      · show (d.key :: kys (firsts (seen ++ [d.key]) r)).Nodup
        rw [List.nodup_cons]
        exact ⟨fun hm => h2 _ hm (by simp), h1⟩
      · intro k hk
        have hk' : k ∈ d.key :: kys (firsts (seen ++ [d.key]) r) := hk
        rcases List.mem_cons.1 hk' with e | e
        · rw [e]; exact h
        · exact fun hm => h2 _ e (List.mem_append_left _ hm)
theorem keys_nodup (ds : List Def) : (keys ds).Nodup := (firsts_nodup ds []).1
def cnt (ds : List Def) (ks : List (List UInt8)) : Nat := (ks.map fun k => (of ds k).length).sum
theorem of_cons (d : Def) (r : List Def) (k : List UInt8) : (of (d :: r) k).length = (of r k).length + if d.key = k then 1 else 0 := by
  unfold of
  rw [List.filter_cons]
  by_cases h : d.key = k
  · simp [h]
  · simp [h]
theorem cnt_other {d : Def} {r : List Def} : ∀ {ks : List (List UInt8)}, d.key ∉ ks → cnt (d :: r) ks = cnt r ks
  | [], _ => rfl
  | k :: ks, h => by
    have h1 : ¬ d.key = k := fun e => h (by rw [e]; simp)
    have h2 : d.key ∉ ks := fun hm => h (List.mem_cons_of_mem _ hm)
    have ih := cnt_other (r := r) h2
    unfold cnt at ih ⊢
    rw [List.map_cons, List.sum_cons, List.map_cons, List.sum_cons, of_cons, if_neg h1, ih, Nat.add_zero]
theorem cnt_firsts : ∀ (ds : List Def) (seen : List (List UInt8)), cnt ds (kys (firsts seen ds)) = (ds.filter fun d => decide (d.key ∉ seen)).length
  | [], _ => rfl
  | d :: r, seen => by
    unfold firsts
    by_cases h : d.key ∈ seen
    · rw [if_pos h]
      have hn := (firsts_nodup r seen).2
      rw [cnt_other (fun hm => hn _ hm h), cnt_firsts r seen, List.filter_cons]
      simp [h]
    · rw [if_neg h]
      have hn := (firsts_nodup r (seen ++ [d.key])).2
      have hnd : d.key ∉ kys (firsts (seen ++ [d.key]) r) := fun hm => hn _ hm (by simp)
      have e : kys (d :: firsts (seen ++ [d.key]) r) = d.key :: kys (firsts (seen ++ [d.key]) r) := rfl
      rw [e]
      have e2 : ∀ (x : List UInt8) (xs : List (List UInt8)), cnt (d :: r) (x :: xs) = (of (d :: r) x).length + cnt (d :: r) xs := fun x xs => by unfold cnt; rw [List.map_cons, List.sum_cons]
      rw [e2, cnt_other hnd, cnt_firsts r, of_cons, if_pos rfl, List.filter_cons, if_pos (by simpa using h), List.length_cons]
      have hsplit : ∀ r : List Def, (of r d.key).length + (r.filter fun x => decide (x.key ∉ seen ++ [d.key])).length = (r.filter fun x => decide (x.key ∉ seen)).length := fun r => by
        induction r with
        | nil => rfl
        | cons x r ih =>
          rw [of_cons, List.filter_cons, List.filter_cons]
          by_cases hx : x.key = d.key
          · have h1 : ¬ (x.key ∉ seen ++ [d.key]) := fun hm => hm (by rw [hx]; simp)
            have h2 : x.key ∉ seen := by rw [hx]; exact h
            simp only [hx, if_true, decide_eq_true_eq] at h1 h2 ⊢
            rw [if_neg (by simp), if_pos h2, List.length_cons, ← ih]; omega
          · by_cases hs : x.key ∈ seen
            · have h1 : ¬ (x.key ∉ seen ++ [d.key]) := fun hm => hm (List.mem_append_left _ hs)
              simp only [hx, if_false, decide_eq_true_eq]
              rw [if_neg h1, if_neg (fun hm => hm hs), ← ih]; omega
            · have h1 : x.key ∉ seen ++ [d.key] := fun hm => by
                rcases List.mem_append.1 hm with e | e
                · exact hs e
                · exact hx (List.mem_singleton.1 e)
              simp only [hx, if_false, decide_eq_true_eq]
              rw [if_pos h1, if_pos hs, List.length_cons, List.length_cons, ← ih]; omega
      have := hsplit r
      omega
theorem cnt_keys (ds : List Def) : cnt ds (keys ds) = ds.length := by
  have := cnt_firsts ds []
  rw [show keys ds = kys (firsts [] ds) from rfl, this]
  congr 1
  rw [List.filter_eq_self]
  intro a _
  exact decide_eq_true (by simp)
theorem cnt_le (ds : List Def) (ks : List (List UInt8)) (j : Nat) : cnt ds (ks.take j) ≤ cnt ds ks := by
  have e : cnt ds ks = cnt ds (ks.take j) + cnt ds (ks.drop j) := by
    unfold cnt
    rw [← List.sum_append, ← List.map_append, List.take_append_drop]
  omega
theorem cnt_take {ds : List Def} {ks : List (List UInt8)} {j : Nat} (h : j < ks.length) : cnt ds (ks.take (j + 1)) = cnt ds (ks.take j) + (of ds ks[j]).length := by
  unfold cnt
  rw [List.take_succ_eq_append_getElem h, List.map_append, List.sum_append]
  simp
/-- the first Def of a key stands first among those of it -/
theorem firsts_first : ∀ (ds : List Def) (seen : List (List UInt8)), ∀ d ∈ firsts seen ds, (of ds d.key)[0]? = some d
  | [], _, _, h => by cases h
  | x :: r, seen, d, hd => by
    unfold firsts at hd
    have hofc : ∀ k, of (x :: r) k = if x.key = k then x :: of r k else of r k := fun k => by
      unfold of
      rw [List.filter_cons]
      by_cases h : x.key = k
      · simp [h]
      · simp [h]
    by_cases h : x.key ∈ seen
    · rw [if_pos h] at hd
      have hn := (firsts_nodup r seen).2 d.key (List.mem_map.2 ⟨d, hd, rfl⟩)
      rw [hofc, if_neg (fun e => hn (by rw [← e]; exact h))]
      exact firsts_first r seen d hd
    · rw [if_neg h] at hd
      rcases List.mem_cons.1 hd with e | e
      · rw [e, hofc, if_pos rfl]; rfl
      · have hn := (firsts_nodup r (seen ++ [x.key])).2 d.key (List.mem_map.2 ⟨d, e, rfl⟩)
        rw [hofc, if_neg (fun e2 => hn (by rw [← e2]; simp))]
        exact firsts_first r _ d e
theorem files_right {l : List Src} {ds : List Def} (hr : ∀ d ∈ ds, Sp l d) : (files ds).Nodup ∧ ∀ k ∈ files ds, k ∈ keys ds ∧ ∃ d, (of ds k)[0]? = some d ∧ d.attr.file = k := by
  refine ⟨?_, fun k hk => ?_⟩
  · have h := keys_nodup ds
    unfold keys at h
    unfold files
    exact List.Nodup.sublist (List.Sublist.map _ (List.filter_sublist)) h
  · unfold files at hk
    obtain ⟨d, hd, rfl⟩ := List.mem_map.1 hk
    rw [List.mem_filter] at hd
    refine ⟨List.mem_map.2 ⟨d, hd.1, rfl⟩, d, firsts_first ds [] d hd.1, ?_⟩
    have hs := hr d (firsts_mem ds [] d hd.1)
    have hf := (isF_iff _).1 hd.2
    rw [hs.key, hs.one.resolve_right hf]; rfl
end Ck
end Go.Proofs.YtmmgfoepfapnkaaGreatDoor

namespace Go.Proofs.YtmmgfoepfapnkaaGreatDoor
open Go.RowKit
attribute [local go_sem] canOp readsAs readUpon

set_option maxHeartbeats 2000000 in
set_option maxRecDepth 100000 in
theorem pfences (l : List UInt8) (A : Option Addr) (c : Nat) (w : World) (hR : Row w w.heap.size 1 A l.length (bcells l)) (hlc : l.length ≤ c) (hl : l.length ≤ 9223372036854775807) :
    Calls Tryz.prog 62 #[.slice A l.length c] w fun e w' => ∃ v, e = .returned v ∧ w'.ownsRow w.heap.size 107 8 v (Pb.read (Pb.linesOf l)).places.length (plcCells (Pb.read (Pb.linesOf l)).places) ∧ Below w.heap.size w w' := by
  have hrd := pread l A c w hR hlc hl
  obtain ⟨G, hG⟩ : ∃ G, Pb.read (Pb.linesOf l) = G := ⟨_, rfl⟩
  rw [hG] at hrd ⊢
  clear hG
  go_enter Tryz.func62, Tryz.ntmps62
  go_wp2_with fail
  refine hrd.mono ?_
  rintro e w1 ⟨R, rv, lv, pv, M, row, rfl, hrow, hA, _, _, hb1⟩
  have hop := hA.hp.own (k := .pls) rfl
  have hnew := ext_alloc w1 (.cells (rdArr rv lv pv G.leaf) 138)
  have hopf := Lib.hid (own_base (own_below hop hnew) (by omega : w.heap.size ≤ w.heap.size + 1))
  have hBf := Lib.hid (ext_trans hb1 hnew)
  obtain ⟨gl, hgl⟩ : ∃ gl, G.leaf = gl := ⟨_, rfl⟩
  obtain ⟨rA, rc, hrv, _⟩ := own_shape (hA.hp.own (k := .row) rfl)
  obtain ⟨lA, lc, hlv, _⟩ := own_shape (hA.hp.own (k := .lns) rfl)
  obtain ⟨pA, pc, hpv, _⟩ := own_shape hop
  obtain ⟨rn, hrn⟩ : ∃ rn, row.length = rn := ⟨_, rfl⟩
  obtain ⟨ln, hln⟩ : ∃ ln, G.leaf.lines.length = ln := ⟨_, rfl⟩
  obtain ⟨pn, hpn⟩ : ∃ pn, G.places.length = pn := ⟨_, rfl⟩
  rw [hrn] at hrv
  rw [hln] at hlv
  rw [hpn] at hpv
  rw [hgl] at hopf hBf ⊢
  rw [hrv, hlv, hpv] at hopf hBf ⊢
  replace hA := Lib.hid hA
  replace hop := Lib.hid hop
  clear hrn hln hpn hrv hlv hpv hnew
  go_wp2_with fail
  go_ret
  exact ⟨_, rfl, hopf.out, hBf.out⟩
end Go.Proofs.YtmmgfoepfapnkaaGreatDoor

namespace Go.Proofs.YtmmgfoepfapnkaaGreatDoor
open Go.RowKit Go.Maps
attribute [local go_sem] canOp readsAs readUpon

theorem Coll.other {w : World} {B g gm : Nat} {X Y : Nat → Prop} {out : List Ck.Def} (h : Coll w B g gm X out) (hY : ∀ k, Y k → w.heap.size ≤ k) : Coll w B g gm Y out := by
  obtain ⟨v, n, D, h1, h2, h3, h4, h5, h6, h7, h8, _⟩ := h
  obtain ⟨css, ho, he⟩ := h2
  exact ⟨v, n, D, h1, ⟨css, ho, he⟩, h3, h4, h5, h6, h7, h8, fun k hk e => by have := (ho.lt k e).2; have := hY k hk; omega⟩
theorem Coll.weak {w : World} {B g gm : Nat} {X Y : Nat → Prop} {out : List Ck.Def} (h : Coll w B g gm X out) (hY : ∀ k, Y k → X k) : Coll w B g gm Y out := by
  obtain ⟨v, n, D, h1, h2, h3, h4, h5, h6, h7, h8, h9⟩ := h
  exact ⟨v, n, D, h1, h2, h3, h4, h5, h6, h7, h8, fun k hk => h9 k (hY k hk)⟩
theorem Coll.wide {w : World} {B g gm : Nat} {X : Nat → Prop} {out : List Ck.Def} (h : Coll w B g gm X out) : Coll w B g gm (fun k => X k ∨ w.heap.size ≤ k) out := by
  obtain ⟨v, n, D, h1, h2, h3, h4, h5, h6, h7, h8, h9⟩ := h
  obtain ⟨css, ho, he⟩ := h2
  exact ⟨v, n, D, h1, ⟨css, ho, he⟩, h3, h4, h5, h6, h7, h8, fun k hk e => by
    rcases hk with hk | hk
    · exact h9 k hk e
    · have := (ho.lt k e).2; omega⟩
/-- what lies there already is stored: nothing changes -/
theorem set_same {w : World} {b o : Nat} {cs : Array Value} {t : TypeId} {fr : Nat × Nat} {v : Value} (h : w.heap[b]? = some (.cells cs t fr)) (hc : cs[o]? = some v) : w.setCell ⟨b, o, none⟩ v = w := by
  have hs : cs.setIfInBounds o v = cs := by
    apply Array.ext_getElem?
    intro i
    rw [Array.getElem?_setIfInBounds]
    split
    · rename_i e; subst e; rw [if_pos (Array.getElem?_eq_some_iff.1 hc).1, hc]
    · rfl
  unfold World.setCell
  have hm : ∀ (f : Obj → Obj), f (.cells cs t fr) = .cells cs t fr → w.heap.modify b f = w.heap := by
    intro f hf
    apply Array.ext_getElem?
    intro i
    rw [Array.getElem?_modify]
    split
    · rename_i e; subst e; rw [h]; simp [hf]
    · rfl
  rw [hm _ (by simp [hs])]
theorem lnc_at {L : List (Nat × Nat × Nat)} {w : World} {Q : Nat → Prop} {A : Option Addr} (h : RowE w Q 3 A L.length (lncells L)) (hn : 0 < L.length) : ∃ b o, A = some ⟨b, o, none⟩ ∧ Q b ∧ ∀ k, (hk : k < L.length) → w.cell? ⟨b, o + k * 3, none⟩ = some (.int .i64 (L[k].1 : Int)) := by
  obtain ⟨b, o, e, hb, hc⟩ := h.2 hn
  refine ⟨b, o, e, hb, fun k hk => ?_⟩
  refine hc (k * 3) _ ?_
  have key : ∀ (L : List (Nat × Nat × Nat)) (k : Nat), (hk : k < L.length) → (lncells L)[k * 3]? = some (.int .i64 (L[k].1 : Int)) := by
    intro L
    induction L with
    | nil => intro k hk; simp at hk
    | cons x r ih =>
      intro k hk
      match k, hk with
      | 0, _ => rfl
      | k + 1, hk =>
        have e : lncells (x :: r) = [.int .i64 x.1, .int .i64 x.2.1, .int .i64 x.2.2] ++ lncells r := rfl
        have := ih k (by simpa using hk)
        rw [e, show (k + 1) * 3 = k * 3 + 3 from by omega, List.getElem?_append_right (by simp)]
        simpa using this
  exact key L k hk
theorem plc_all : ∀ {ps : List Bk.Pl} {k : Nat} (hk : k < ps.length) {j : Nat} {u : Value}, (plcArr ps[k]).toList[j]? = some u → (plcCells ps)[k * 8 + j]? = some u
  | [], k, hk, _, _, _ => by simp at hk
  | p :: r, 0, _, j, u, h => by
    have hj : j < 8 := (List.getElem?_eq_some_iff.1 h).1
    unfold plcCells
    rw [Nat.zero_mul, Nat.zero_add, ← h]
    match j, hj with
    | 0, _ => rfl
    | 1, _ => rfl
    | 2, _ => rfl
    | 3, _ => rfl
    | 4, _ => rfl
    | 5, _ => rfl
    | 6, _ => rfl
    | 7, _ => rfl
  | p :: r, k + 1, hk, j, u, h => by
    unfold plcCells
    rw [show (k + 1) * 8 + j = k * 8 + j + 8 from by omega]
    exact plc_all (ps := r) (by simpa using hk) h
/-- a place of a row -/
theorem plc_row {w : World} {Q : Nat → Prop} {A : Option Addr} {ps : List Bk.Pl} (h : RowE w Q 8 A ps.length (plcCells ps)) (hn : 0 < ps.length) : ∃ b o, A = some ⟨b, o, none⟩ ∧ Q b ∧ ∀ k, (hk : k < ps.length) → ∀ j u, (plcArr ps[k]).toList[j]? = some u → w.cell? ⟨b, o + k * 8 + j, none⟩ = some u := by
  obtain ⟨b, o, e, hb, hc⟩ := h.2 hn
  refine ⟨b, o, e, hb, fun k hk j u hu => ?_⟩
  have := hc (k * 8 + j) u (plc_all hk hu)
  rwa [← Nat.add_assoc] at this
theorem attrv_some (a : At.Attr) : attrv (some a) = .tuple #[.agg (acells a), .bool true] := rfl
theorem attrv_none : attrv none = .tuple #[.agg (acells At.zeroA), .bool false] := rfl

set_option maxHeartbeats 8000000 in
set_option maxRecDepth 100000 in
theorem document_any (w : World) (B B0 g gm : Nat) (X0 : Nat → Prop) (out : List Ck.Def) (i : Nat) (s : Ck.Src) (A : Option Addr) (c : Nat) (h : Coll w B g gm X0 out) (hB : B ≤ w.heap.size) (hR : Row w B0 1 A s.data.length (bcells s.data)) (hsc : s.data.length ≤ c) (hdl : s.data.length ≤ 65536) (hpl : s.path.length ≤ 1000000000)
    (hT : ATabs w) (hB2 : 2 ≤ B0) (hol : out.length ≤ 200) (hg0 : B0 ≤ g) (hgm0 : B0 ≤ gm) (hgB : g < B) (hgmB : gm < B) :
    Calls Tryz.prog 41 #[.pointer (some ⟨g, 0, none⟩), .int .i64 (i : Int), .agg #[.string (bs s.path), .slice A s.data.length c]] w fun e w' => e = .returned (fltv (Ck.fences i s (Ck.places s.data) out).1) ∧ ((Ck.fences i s (Ck.places s.data) out).1.code = 0 → Coll w' B g gm (fun _ => False) (Ck.fences i s (Ck.places s.data) out).2 ∧ (Ck.fences i s (Ck.places s.data) out).2.length ≤ 200) ∧ Below B0 w w' := by
  have hin := fun p (hp : p ∈ Ck.places s.data) hpc => @Ck.piece_in s.data hdl p hp hpc
  have hinf := Lib.hid (fun p (hp : p ∈ Ck.places s.data) => ((Ck.places_lay s.data).pls p hp).2.2.2.2)
  have hB0w : B0 ≤ w.heap.size := by omega
  have hsp := fun w' h => split_any s.data A c w' h (by omega)
  have hfe := fun w' h => pfences s.data A c w' h hsc (by omega)
  obtain ⟨path, data⟩ := s
  simp only at hR hsc hdl hpl hin hsp hfe hinf ⊢
  have hpld : (Pb.read (Pb.linesOf data)).places = Ck.places data := rfl
  rw [hpld] at hfe
  obtain ⟨F, hF⟩ : ∃ F, Ck.places data = F := ⟨_, rfl⟩
  rw [hF] at hfe hin hinf ⊢
  obtain ⟨S, hS⟩ : ∃ S : Ck.Src, S = ⟨path, data⟩ := ⟨_, rfl⟩
  rw [← hS]
  obtain ⟨n, hn9⟩ : ∃ n, data.length = n := ⟨_, rfl⟩
  rw [hn9] at hR hsc hdl hsp hfe ⊢
  have hg5 := blk_one w (.cells #[.string (bs path), .slice A n c] 33) (.cells #[.int .i64 0, .string ⟨#[]⟩, .int .i64 0, .string ⟨#[]⟩] 46)
  have hg6 := blk_two w (.cells #[.string (bs path), .slice A n c] 33) (.cells #[.int .i64 0, .string ⟨#[]⟩, .int .i64 0, .string ⟨#[]⟩] 46)
  have hb0 := ext_trans (ext_alloc w (.cells #[.string (bs path), .slice A n c] 33)) (ext_alloc _ (.cells #[.int .i64 0, .string ⟨#[]⟩, .int .i64 0, .string ⟨#[]⟩] 46))
  obtain ⟨wa, hwa⟩ : ∃ wa, (w.alloc (.cells #[.string (bs path), .slice A n c] 33)).alloc (.cells #[.int .i64 0, .string ⟨#[]⟩, .int .i64 0, .string ⟨#[]⟩] 46) = wa := ⟨_, rfl⟩
  have hza : wa.heap.size = w.heap.size + 2 := by rw [← hwa]; simp
  rw [hwa] at hg5 hg6 hb0
  have hRa := (hR.below (hb0.mono hB0w)).more (show B0 ≤ wa.heap.size by omega)
  have s1 := cell12 hg5 (j := 1) rfl
  obtain ⟨q, hq⟩ : ∃ q, w.heap.size = q := ⟨_, rfl⟩
  rw [hq] at hg5 hg6 s1 hza hB0w hB
  have hC := Lib.hid h
  replace hR := Lib.hid hR
  replace hT := Lib.hid hT
  replace hin := Lib.hid hin
  replace hg6 := Lib.hid hg6
  replace hb0 := Lib.hid hb0
  clear h hF hpld
  go_enter Tryz.func41, Tryz.ntmps41
  go_wp2_with fail
  refine (hsp _ hRa).mono ?_
  rintro e w1 ⟨v1, rfl, ho1, hb1⟩
  have hRb := hRa.ext hb1
  have hg5b := (keep hg5 hb1).1
  have hg6b := (keep hg6.out hb1).1
  have s1b := cell12 hg5b (j := 1) rfl
  obtain ⟨LA, lc, rfl, hlc⟩ := own_shape ho1
  replace ho1 := Lib.hid ho1
  have hsz1 := hb1.size
  replace hb1 := Lib.hid hb1
  clear s1 hRa
  go_wp2_with fail
  refine (hfe _ hRb).mono ?_
  rintro e w2 ⟨v2, rfl, ho2, hb2⟩
  obtain ⟨PA, pc, rfl, hpc⟩ := own_shape ho2
  have hsz2 := hb2.size
  have hnm := own_max ho2
  obtain ⟨X, hX⟩ : ∃ X : Nat → Prop, X = fun k => q ≤ k ∧ k < w2.heap.size := ⟨_, rfl⟩
  have hXq : X q := by rw [hX]; exact ⟨Nat.le_refl _, by omega⟩
  have hXq1 : X (q + 1) := by rw [hX]; exact ⟨by omega, by omega⟩
  have hXe : ∀ k, X k → q ≤ k ∧ k < w2.heap.size := fun k hk => by rw [hX] at hk; exact hk
  have hL : RowE w2 X 3 LA (Ln.lines data 0).length (lncells (Ln.lines data 0)) := (own_q ho1.out).frame (fun b hq' => hb2.block b hq'.2) (fun b hq' => by rw [hX]; exact ⟨by omega, by omega⟩)
  have hP : RowE w2 X 8 PA F.length (plcCells F) := (own_q ho2).frame (fun _ _ => rfl) (fun b hq' => by rw [hX]; exact ⟨by omega, by omega⟩)
  have hg5c := (keep hg5b hb2).1
  have hg6c := (keep hg6b hb2).1
  have hbw2 : Below q w w2 := by
    have h1 := ext_trans (ext_trans hb0.out hb1.out) hb2
    rw [hq] at h1; exact h1
  have hC2 : Coll w2 B g gm X out := (hC.out.other (fun k hk => by rw [hq]; exact (hXe k hk).1)).ext (by rw [hq]; exact hbw2)
  have hbwB : Below B0 w w2 := hbw2.mono hB0w
  have hRs : RowE w (fun b => b < B0) 1 A n (bcells data) := hR.out.q
  replace ho1 := Lib.hid ho1
  replace ho2 := Lib.hid ho2
  replace hL := Lib.hid hL
  replace hP := Lib.hid hP
  replace hS := Lib.hid hS
  replace hg5c := Lib.hid hg5c
  replace hg6c := Lib.hid hg6c
  replace hXe := Lib.hid hXe
  replace hC2 := Lib.hid hC2
  replace hbwB := Lib.hid hbwB
  replace hRs := Lib.hid hRs
  replace hX := Lib.hid hX
  obtain ⟨nf, hnf⟩ : ∃ nf, F.length = nf := ⟨_, rfl⟩
  obtain ⟨nl, hnl⟩ : ∃ nl, (Ln.lines data 0).length = nl := ⟨_, rfl⟩
  rw [hnf, hnl]
  rw [hnf] at hnm
  replace hnf := Lib.hid hnf
  replace hnl := Lib.hid hnl
  clear hg5 hg5b hg6b hb2 hRb s1b hsp hfe hwa hbw2
  go_wp2_with fail
  go_loopw [22] (fun u wr => ∃ (j : Nat) (o2 : List Ck.Def), j ≤ nf ∧ u = .int .i64 (j : Int) ∧ o2.length ≤ 200 ∧ Hid (Ck.fences i S (F.drop j) o2 = Ck.fences i S F out) ∧ Hid (Coll wr B g gm X o2) ∧ Hid (∀ k, X k → wr.heap[k]? = w2.heap[k]?) ∧ Hid (Below B0 w wr) ∧ w2.heap.size ≤ wr.heap.size) (fun u _ => nf - (intOf u).toNat)
  case atStart => exact ⟨0, out, by omega, rfl, hol, Lib.hid rfl, hC2, Lib.hid (fun _ _ => rfl), hbwB, Nat.le_refl _⟩
  case round =>
    obtain ⟨j, o2, hj, rfl, ho2l, hst, hCr, hfr, hbr, hwr⟩ := hrel
    have hr6 := (hfr.out _ hXq1).trans hg6c.out
    have hr5 := (hfr.out _ hXq).trans hg5c.out
    have hqr : q + 1 < wr.heap.size := (Array.getElem?_eq_some_iff.1 hr6).1
    rcases Nat.lt_or_ge j nf with hlt | hge
    · have hlt' : j < F.length := by rw [hnf.out]; exact hlt
      obtain ⟨b, o, rfl, hbX, hcc⟩ := plc_row (hP.out.frame hfr.out (fun _ h => h)) (by omega)
      have hcj := hcc j hlt'
      have hstep := (Ck.fences_at hlt' i S o2).symm.trans hst.out
      have hinj := hin.out F[j] (List.getElem_mem hlt')
      have hpc9 := fun w (hl : F[j].op.info.length ≤ 1000000000) => piece_any F[j] w hl
      have hil := hinf.out F[j] (List.getElem_mem hlt')
      obtain ⟨p, hpe⟩ : ∃ p, F[j] = p := ⟨_, rfl⟩
      rw [hpe] at hcj hstep hinj hpc9 hil
      obtain ⟨pln, ⟨pch, pn, pin, info⟩, fi, la, cl⟩ := p
      simp only [plcArr] at hcj hstep hinj hpc9 hil
      have c0 := hcj 0 _ rfl
      have c1 := hcj 1 _ rfl
      have c2 := hcj 2 _ rfl
      have c3 := hcj 3 _ rfl
      have c4 := hcj 4 _ rfl
      have c5 := hcj 5 _ rfl
      have c6 := hcj 6 _ rfl
      have c7 := hcj 7 _ rfl
      rw [Nat.add_zero] at c0
      have hx1 := ext_alloc wr (.cells #[.int .i64 (pln : Int), .int .u8 (pch.toNat : Int), .int .i64 (pn : Int), .int .i64 (pin : Int), .string (bs info), .int .i64 (fi : Int), .int .i64 (la : Int), .bool cl] 107)
      have q1 := heap_alloc_new wr (.cells #[.int .i64 (pln : Int), .int .u8 (pch.toNat : Int), .int .i64 (pn : Int), .int .i64 (pin : Int), .string (bs info), .int .i64 (fi : Int), .int .i64 (la : Int), .bool cl] 107)
      have hpc1 := hpc9 (wr.alloc (.cells #[.int .i64 (pln : Int), .int .u8 (pch.toNat : Int), .int .i64 (pn : Int), .int .i64 (pin : Int), .string (bs info), .int .i64 (fi : Int), .int .i64 (la : Int), .bool cl] 107)) (by omega)
      obtain ⟨Y, hY⟩ : ∃ Y, Ck.piece ⟨pln, ⟨pch, pn, pin, info⟩, fi, la, cl⟩ = Y := ⟨_, rfl⟩
      rw [hY] at hpc1 hstep hinj
      have r5 := Lib.hid hr5
      have r6 := Lib.hid hr6
      have pX := Lib.hid q1
      have hbX := hbr
      have hfX := hfr
      have hCX := Lib.hid hCr.out.wide
      replace hstep := Lib.hid hstep
      replace hinj := Lib.hid hinj
      clear hcj hcc hpc9 hst hY hr5 hr6 q1 hpe
      go_wp2_with fail
      refine hpc1.mono ?_
      rintro e w3 ⟨rfl, hb3⟩
      have hb3' := ext_trans hx1 hb3
      have pX := Lib.hid (keep pX.out hb3).1
      have r5 := Lib.hid (keep r5.out hb3').1
      have r6 := Lib.hid (keep r6.out hb3').1
      have hbX : Hid (Below B0 w w3) := Lib.hid (hbX.out.trans (hb3'.mono (by have := hbX.out.size; omega)))
      have hfX : Hid (∀ k, X k → w3.heap[k]? = w2.heap[k]?) := Lib.hid (fun k hk => (hb3'.block k (by have := (hXe.out k hk).2; omega)).trans (hfX.out k hk))
      have hCX := Lib.hid (hCX.out.ext hb3')
      have hsX : w2.heap.size ≤ w3.heap.size := by have := hb3'.size; omega
      clear hb3 hb3' hx1 hpc1 c0 c1 c2 c3 c4 c5 c6 c7
      have p4 := cell12 pX.out (j := 4) rfl
      cases Y with
      | false =>
        have hst2 := Lib.hid (show Ck.fences i S (F.drop (j + 1)) o2 = Ck.fences i S F out by rw [← hstep.out, if_pos rfl])
        go_wp2_with fail
        go_roundw
        case rel => exact ⟨j + 1, o2, by omega, by go_num, ho2l, hst2, Lib.hid (hCX.out.weak fun _ h => .inl h), hfX, hbX, hsX⟩
        case measure => simp [intOf]; omega
      | true =>
        have hstep := Lib.hid (by have := hstep.out; rw [if_neg (fun e => by cases e)] at this; exact this)
        obtain ⟨hfl, hln, _⟩ := hinj.out rfl
        have hpr := pread_any info w3 (by omega) (tabs_low hT.out hbX.out hB2)
        cases hrd : At.read info with
        | none =>
          rw [hrd, attrv_none] at hpr
          change Calls Tryz.prog 64 #[.string (bs info)] w3 (fun e w' => e = .returned (.tuple #[.agg #[.string ⟨#[]⟩, .string ⟨#[]⟩, .string ⟨#[]⟩, .string ⟨#[]⟩, .bool false, .bool false], .bool false]) ∧ Below w3.heap.size w3 w') at hpr
          have hfin : Hid (Ck.fences i S F out = (⟨13, path, pln, []⟩, o2)) := Lib.hid (by
            have := hstep.out
            rw [Ck.judge_none hrd] at this
            simp only at this
            rw [← this, hS.out]; rfl)
          clear hrd
          go_wp2_with fail
          refine hpr.mono ?_
          rintro e w4 ⟨rfl, hb4⟩
          go_upto_region 7 with fail
          have hb5 := ext_trans hb4 (ext_alloc w4 (.cells #[.string ⟨#[]⟩, .string ⟨#[]⟩, .string ⟨#[]⟩, .string ⟨#[]⟩, .bool false, .bool false] 50))
          have qa := heap_alloc_new w4 (.cells #[.string ⟨#[]⟩, .string ⟨#[]⟩, .string ⟨#[]⟩, .string ⟨#[]⟩, .bool false, .bool false] 50)
          obtain ⟨w5, hw5⟩ : ∃ w5, w4.alloc (.cells #[.string ⟨#[]⟩, .string ⟨#[]⟩, .string ⟨#[]⟩, .string ⟨#[]⟩, .bool false, .bool false] 50) = w5 := ⟨_, rfl⟩
          rw [hw5] at hb5 qa ⊢
          have r5 := Lib.hid (keep r5.out hb5).1
          have r6 := Lib.hid (keep r6.out hb5).1
          have pX := Lib.hid (keep pX.out hb5).1
          have hbX : Hid (Below B0 w w5) := Lib.hid (hbX.out.trans (hb5.mono (by have := hbX.out.size; omega)))
          have hfX : Hid (∀ k, X k → w5.heap[k]? = w2.heap[k]?) := Lib.hid (fun k hk => (hb5.block k (by have := (hXe.out k hk).2; omega)).trans (hfX.out k hk))
          have hCX := Lib.hid (hCX.out.ext hb5)
          have hsX : w2.heap.size ≤ w5.heap.size := by have := hb5.size; omega
          have a1 := cell12 qa (j := 1) rfl
          have a2 := cell12 qa (j := 2) rfl
          clear hb4 hb5 hpr p4
          have u0 := cell12 r5.out (j := 0) rfl
          have u1 := cell12 r5.out (j := 1) rfl
          have pl0 := cell12 pX.out (j := 0) rfl
          have hfa := fun w => fault_any 13 pln path [] A n c w (by omega)
          change ∀ w, Calls Tryz.prog 60 #[.int .i64 13, .agg #[.string (bs path), .slice A n c], .int .i64 (pln : Int), .string ⟨#[]⟩] w _ at hfa
          go_wp2_with fail
          refine (hfa _).mono ?_
          rintro e wf ⟨rfl, hbf⟩
          have r6f := (keep r6.out hbf).1
          obtain ⟨k0, k1, k2, k3⟩ := four r6f
          have kf := blk_free r6f
          have hB9 := Lib.hid (hbX.out.trans (hbf.mono (by have := hbX.out.size; omega)))
          clear r6f hbf hfa u0 u1 pl0
          go_wp2_with fail
          exact bodyPost_ret (v := fltv ⟨13, path, pln, []⟩) (by rw [results_cell1 rfl]; go_simp <;> rfl) rfl ⟨by rw [hfin.out], fun e => (by rw [hfin.out] at e; cases e), below_four hB9.out (by omega) _ _ _ _⟩
        | some a =>
          obtain ⟨lang, name, file, style, ap, nol⟩ := a
          rw [hrd, attrv_some] at hpr
          have hal := At.read_len hrd
          simp only at hal
          simp only [acells] at hpr
          have zn := bs_size name
          have zfl := bs_size file
          have hcat : (bs name ++ bs file) = bs (name ++ file) := bs_append name file
          have hno : ¬ 9223372036854775807 < name.length + file.length := by omega
          obtain ⟨key, hkey⟩ : ∃ key, name ++ file = key := ⟨_, rfl⟩
          rw [hkey] at hcat
          have hkl : key.length ≤ 600000 := by rw [← hkey, List.length_append]; omega
          replace hkey := Lib.hid hkey
          replace hrd := Lib.hid hrd
          go_wp2_with fail
          refine hpr.mono ?_
          rintro e w4 ⟨rfl, hb4⟩
          go_upto_region 7 with fail
          have hb5 := ext_trans hb4 (ext_alloc w4 (.cells #[.string (bs lang), .string (bs name), .string (bs file), .string (bs style), .bool ap, .bool nol] 50))
          have qa := heap_alloc_new w4 (.cells #[.string (bs lang), .string (bs name), .string (bs file), .string (bs style), .bool ap, .bool nol] 50)
          have hgw9 : wr.heap.size < w4.heap.size := by have h1 := (Array.getElem?_eq_some_iff.1 pX.out).1; have h2 := hb4.size; omega
          obtain ⟨w5, hw5⟩ : ∃ w5, w4.alloc (.cells #[.string (bs lang), .string (bs name), .string (bs file), .string (bs style), .bool ap, .bool nol] 50) = w5 := ⟨_, rfl⟩
          rw [hw5] at hb5 qa ⊢
          have r5 := Lib.hid (keep r5.out hb5).1
          have r6 := Lib.hid (keep r6.out hb5).1
          have pX := Lib.hid (keep pX.out hb5).1
          have hbX : Hid (Below B0 w w5) := Lib.hid (hbX.out.trans (hb5.mono (by have := hbX.out.size; omega)))
          have hfX : Hid (∀ k, X k → w5.heap[k]? = w2.heap[k]?) := Lib.hid (fun k hk => (hb5.block k (by have := (hXe.out k hk).2; omega)).trans (hfX.out k hk))
          have hCX := Lib.hid (hCX.out.ext hb5)
          have hsX : w2.heap.size ≤ w5.heap.size := by have := hb5.size; omega
          obtain ⟨ga, hga⟩ : ∃ ga, w4.heap.size = ga := ⟨_, rfl⟩
          rw [hga] at qa hgw9 ⊢
          have a0 := cell12 qa (j := 0) rfl
          have a1 := cell12 qa (j := 1) rfl
          have a2 := cell12 qa (j := 2) rfl
          have a3 := cell12 qa (j := 3) rfl
          have a4 := cell12 qa (j := 4) rfl
          have a5 := cell12 qa (j := 5) rfl
          replace qa := Lib.hid qa
          clear hb4 hb5 hpr p4 hw5 hga
          by_cases hk0 : key = []
          · have hfin : Hid (Ck.fences i S F out = (⟨13, path, pln, []⟩, o2)) := Lib.hid (by
              have := hstep.out
              rw [Ck.judge_nokey hrd.out (by rw [← hk0]; exact hkey.out)] at this
              simp only at this
              rw [← this, hS.out]; rfl)
            have ht : (bs key).toList.isEmpty = true := by rw [hk0]; exact text_nil
            clear hk0
            have u0 := cell12 r5.out (j := 0) rfl
            have u1 := cell12 r5.out (j := 1) rfl
            have pl0 := cell12 pX.out (j := 0) rfl
            have hfa := fun w => fault_any 13 pln path [] A n c w (by omega)
            change ∀ w, Calls Tryz.prog 60 #[.int .i64 13, .agg #[.string (bs path), .slice A n c], .int .i64 (pln : Int), .string ⟨#[]⟩] w _ at hfa
            go_wp2_with fail
            refine (hfa _).mono ?_
            rintro e wf ⟨rfl, hbf⟩
            have r6f := (keep r6.out hbf).1
            obtain ⟨k0, k1, k2, k3⟩ := four r6f
            have kf := blk_free r6f
            have hB9 := Lib.hid (hbX.out.trans (hbf.mono (by have := hbX.out.size; omega)))
            clear r6f hbf hfa u0 u1 pl0
            go_wp2_with fail
            exact bodyPost_ret (v := fltv ⟨13, path, pln, []⟩) (by rw [results_cell1 rfl]; go_simp <;> rfl) rfl ⟨by rw [hfin.out], fun e => (by rw [hfin.out] at e; cases e), below_four hB9.out (by omega) _ _ _ _⟩
          · have ht : (bs key).toList.isEmpty = false := by
              rcases key with _ | ⟨x, r⟩
              · exact absurd rfl hk0
              · exact text_cons x r
            obtain ⟨ft, hft⟩ : ∃ ft, Ck.fits o2 ⟨lang, name, file, style, ap, nol⟩ key = ft := ⟨_, rfl⟩
            have hfc := fun w h => fits_any w B g gm (fun k => X k ∨ wr.heap.size ≤ k) o2 ⟨lang, name, file, style, ap, nol⟩ key h (by omega) (by omega)
            rw [hft] at hfc
            simp only [acells] at hfc
            have hkn : Hid (name ++ file ≠ []) := Lib.hid (by rw [hkey.out]; exact hk0)
            go_wp2_with fail
            refine (hfc _ hCX.out).mono ?_
            rintro e w6 ⟨rfl, hb6⟩
            have r5 := Lib.hid (keep r5.out hb6).1
            have r6 := Lib.hid (keep r6.out hb6).1
            have pX := Lib.hid (keep pX.out hb6).1
            have hbX : Hid (Below B0 w w6) := Lib.hid (hbX.out.trans (hb6.mono (by have := hbX.out.size; omega)))
            have hfX : Hid (∀ k, X k → w6.heap[k]? = w2.heap[k]?) := Lib.hid (fun k hk => (hb6.block k (by have := (hXe.out k hk).2; omega)).trans (hfX.out k hk))
            have hCX := Lib.hid (hCX.out.ext hb6)
            have hsX : w2.heap.size ≤ w6.heap.size := by have := hb6.size; omega
            have qa := Lib.hid (keep qa.out hb6).1
            have a0 := cell12 qa.out (j := 0) rfl
            have a1 := cell12 qa.out (j := 1) rfl
            have a2 := cell12 qa.out (j := 2) rfl
            have a3 := cell12 qa.out (j := 3) rfl
            have a4 := cell12 qa.out (j := 4) rfl
            have a5 := cell12 qa.out (j := 5) rfl
            clear hb6 hfc
            cases ft with
            | false =>
              have hfin : Hid (Ck.fences i S F out = (⟨14, path, pln, key⟩, o2)) := Lib.hid (by
                have := hstep.out
                rw [Ck.judge_bad hrd.out hkn.out (by rw [hkey.out]; exact hft)] at this
                simp only at this
                rw [← this, hS.out]
                simp [hkey.out])
              have u0 := cell12 r5.out (j := 0) rfl
              have u1 := cell12 r5.out (j := 1) rfl
              have pl0 := cell12 pX.out (j := 0) rfl
              have hfa := fun w => fault_any 14 pln path key A n c w (by omega)
              change ∀ w, Calls Tryz.prog 60 #[.int .i64 14, .agg #[.string (bs path), .slice A n c], .int .i64 (pln : Int), .string (bs key)] w _ at hfa
              go_wp2_with fail
              refine (hfa _).mono ?_
              rintro e wf ⟨rfl, hbf⟩
              have r6f := (keep r6.out hbf).1
              obtain ⟨k0, k1, k2, k3⟩ := four r6f
              have kf := blk_free r6f
              have hB9 := Lib.hid (hbX.out.trans (hbf.mono (by have := hbX.out.size; omega)))
              clear r6f hbf hfa u0 u1 pl0
              go_wp2_with fail
              exact bodyPost_ret (v := fltv ⟨14, path, pln, key⟩) (by rw [results_cell1 rfl]; go_simp <;> rfl) rfl ⟨by rw [hfin.out], fun e => (by rw [hfin.out] at e; cases e), below_four hB9.out (by omega) _ _ _ _⟩
            | true =>
              have hjg := Ck.judge_good hrd.out hkn.out (by rw [hkey.out]; exact hft)
              obtain ⟨CA, cc, cn, CD, ccss, hcg, hccl, _, _, _⟩ := hCX.out.row
              have cg0 := cell12 hcg (j := 0) rfl
              by_cases h200 : 200 ≤ o2.length
              · have hfin : Hid (Ck.fences i S F out = (⟨3, path, pln, []⟩, o2)) := Lib.hid (by
                  have := hstep.out
                  rw [hjg.1 h200] at this
                  simp only at this
                  rw [← this, hS.out]; rfl)
                clear hjg
                have u0 := cell12 r5.out (j := 0) rfl
                have u1 := cell12 r5.out (j := 1) rfl
                have pl0 := cell12 pX.out (j := 0) rfl
                have hfa := fun w => fault_any 3 pln path [] A n c w (by omega)
                change ∀ w, Calls Tryz.prog 60 #[.int .i64 3, .agg #[.string (bs path), .slice A n c], .int .i64 (pln : Int), .string ⟨#[]⟩] w _ at hfa
                go_wp2_with fail
                refine (hfa _).mono ?_
                rintro e wf ⟨rfl, hbf⟩
                have r6f := (keep r6.out hbf).1
                obtain ⟨k0, k1, k2, k3⟩ := four r6f
                have kf := blk_free r6f
                have hB9 := Lib.hid (hbX.out.trans (hbf.mono (by have := hbX.out.size; omega)))
                clear r6f hbf hfa u0 u1 pl0
                go_wp2_with fail
                exact bodyPost_ret (v := fltv ⟨3, path, pln, []⟩) (by rw [results_cell1 rfl]; go_simp <;> rfl) rfl ⟨by rw [hfin.out], fun e => (by rw [hfin.out] at e; cases e), below_four hB9.out (by omega) _ _ _ _⟩
              · obtain ⟨a', hja, hlay⟩ := hjg.2 (by omega)
                have hst2 : Hid (Ck.fences i S (F.drop (j + 1)) (o2 ++ [Ck.mkDef i S ⟨pln, ⟨pch, pn, pin, info⟩, fi, la, cl⟩ a']) = Ck.fences i S F out) := Lib.hid (by
                  have := hstep.out
                  rw [hja] at this
                  rw [← this]; rfl)
                clear hjg hja
                replace hlay := Lib.hid hlay
                obtain ⟨lb, lo, rfl, hlX, hlcell⟩ := lnc_at (hL.out.frame hfX.out (fun _ h => h)) (by omega)
                have hlaz := hlcell la hln
                have hfiz := hlcell fi (by omega)
                have hn1 := hnl.out
                have v0 := Ck.at_eq (l := data) (k := fi) (by omega)
                have v1 := Ck.at_eq (l := data) (k := la) hln
                rw [← v0] at hfiz
                rw [← v1] at hlaz
                obtain ⟨frm, hfrm⟩ : ∃ frm, Ck.at_ (Ln.lines data 0) fi = frm := ⟨_, rfl⟩
                obtain ⟨upt, hupt⟩ : ∃ upt, Ck.at_ (Ln.lines data 0) la = upt := ⟨_, rfl⟩
                rw [hfrm] at hfiz
                rw [hupt] at hlaz
                have p5 := cell12 pX.out (j := 5) rfl
                have p6 := cell12 pX.out (j := 6) rfl
                have hi0 : (0 : Int) ≤ (fi : Int) := by omega
                have hi1 : (fi : Int) < (nl : Int) := by omega
                have hi2 : ¬ (nl : Int) ≤ (fi : Int) := by omega
                have hi3 : ¬ (fi : Int) < 0 := by omega
                have hi4 : (0 : Int) ≤ (la : Int) := by omega
                have hi5 : (la : Int) < (nl : Int) := by omega
                have hi6 : ¬ (nl : Int) ≤ (la : Int) := by omega
                have hi7 : ¬ (la : Int) < 0 := by omega
                replace hlaz := Lib.hid hlaz
                have hla2 := hlaz.out
                clear hlcell
                go_wp2_with fail
                go_quiet (fail)
                go_wp2_with fail
                have hb7 : Below w6.heap.size w6 (w6.drewN nq) := below_drewN (Below.refl _ _) nq
                obtain ⟨w7, hw7⟩ : ∃ w7, w6.drewN nq = w7 := ⟨_, rfl⟩
                rw [hw7] at hb7 ⊢
                have r5 := Lib.hid (keep r5.out hb7).1
                have r6 := Lib.hid (keep r6.out hb7).1
                have pX := Lib.hid (keep pX.out hb7).1
                have hbX : Hid (Below B0 w w7) := Lib.hid (hbX.out.trans (hb7.mono (by have := hbX.out.size; omega)))
                have hfX : Hid (∀ k, X k → w7.heap[k]? = w2.heap[k]?) := Lib.hid (fun k hk => (hb7.block k (by have := (hXe.out k hk).2; omega)).trans (hfX.out k hk))
                have hCX := Lib.hid (hCX.out.ext hb7)
                have hsX : w2.heap.size ≤ w7.heap.size := by have := hb7.size; omega
                have qa := Lib.hid (keep qa.out hb7).1
                clear hb7 hw7 a0 a1 a2 a3 a4 a5 p5 p6 hcg cg0
                have hl1 : frm ≤ upt := by
                  rcases Nat.lt_or_ge fi la with h | h
                  · have := Ln.at_lt h hln; rw [← v0, ← v1, hfrm, hupt] at this; omega
                  · have e : fi = la := by omega
                    rw [← hfrm, ← hupt, e]; exact Nat.le_refl _
                have hl2 : upt ≤ n := by
                  have := (Ln.lines_from la (l := data) (a := 0) hln).2.1
                  rw [← v1, hupt, hn9] at this; omega
                have hml : (mid data frm upt).length = upt - frm := by unfold mid; rw [List.length_take, List.length_drop, hn9]; omega
                have htx : Ln.texts (mid data frm upt) 0 = mid (Ln.texts data 0) fi la := by
                  have := Ln.texts_sub (l := data) hfl hln
                  rw [← v0, ← v1, hfrm, hupt] at this; exact this
                have hsl := run_cut underB 1 sizeU8 A n c frm upt hl1 (by omega)
                have hrw : Row w7 w7.heap.size 1 A n (bcells data) := (hRs.out.frame (fun b hb => hbX.out.block b hb) (fun _ h => h)).row (fun b hb => by have := hbX.out.size; omega)
                have hrd7 := (hrw.ext (ext_drew w7)).sub (c := c) hl1 hl2 hsc
                have htc := fun h => texts_any (mid data frm upt) (cutA 1 A c frm) (c - frm) w7.drew h (by omega) (by omega)
                rw [hml, htx] at htc
                have hd : Hid (Ck.mkDef i S ⟨pln, ⟨pch, pn, pin, info⟩, fi, la, cl⟩ ⟨lang, name, file, style, ap, nol⟩ = ⟨i, pln, frm, upt, ⟨lang, name, file, style, ap, nol⟩, key, mid (Ln.texts data 0) fi la⟩) := Lib.hid (by
                  unfold Ck.mkDef; rw [hS.out]; simp only; rw [hfrm, hupt, hkey.out])
                have hq7 := (Array.getElem?_eq_some_iff.1 r5.out).1
                have hp7 := (Array.getElem?_eq_some_iff.1 pX.out).1
                have hg7 := (Array.getElem?_eq_some_iff.1 qa.out).1
                have hC7 : Hid (Coll w7.drew B g gm (fun k => X k ∨ k = wr.heap.size ∨ k = ga) o2) := Lib.hid (Coll.ext (hCX.out.weak fun k hk => by
                  rcases hk with hk | hk | hk
                  · exact .inl hk
                  · exact .inr (by omega)
                  · exact .inr (by omega)) (ext_drew w7))
                replace htc := Lib.hid (htc hrd7)
                replace hsl := Lib.hid hsl
                clear hrw hrd7 hml hfrm hupt v0 v1 hn1 hla2 hfiz hi0 hi1 hi2 hi3 hi4 hi5 hi6 hi7
                obtain ⟨St, hSt⟩ : ∃ St : World → Prop, Hid (∀ u, St u ↔ (u.heap[q]? = w7.heap[q]? ∧ u.heap[wr.heap.size]? = w7.heap[wr.heap.size]? ∧ u.heap[ga]? = w7.heap[ga]?)) := ⟨_, Lib.hid fun _ => Iff.rfl⟩
                have hS0 : St w7.drew := (hSt.out _).2 ⟨rfl, rfl, rfl⟩
                refine wp_region_can [(true, 0), (true, 1), (true, 2), (true, 3), (true, 4), (true, 5), (true, 6), (true, 7), (true, 8), (true, 9), (true, 10), (true, 11), (true, 12), (false, 13), (true, 14), (false, 15)] St hS0 (by kernel_rfl) (by kernel_rfl) (by kernel_rfl) (fun _ _ d _ _ h => by cases d <;> exact h) ?_
                repeat (first | refine wpCan_move rfl ?_ | (refine wpCan_cons rfl ?_; intro K hK; go_simp; refine hK _ _ _ ?_; clear hK K))
                refine wpCan_read (.int .i64 (pln : Int)) rfl rfl hS0 (fun u hu => by have z := cell12 (((hSt.out u).1 hu).2.1.trans pX.out) (j := 0) rfl; go_simp) ?_
                repeat (first | refine wpCan_move rfl ?_ | (refine wpCan_cons rfl ?_; intro K hK; go_simp; refine hK _ _ _ ?_; clear hK K))
                refine wpCan_read (.agg #[.string (bs lang), .string (bs name), .string (bs file), .string (bs style), .bool ap, .bool nol]) rfl rfl hS0 (fun u hu => by
                  have z := ((hSt.out u).1 hu).2.2.trans qa.out
                  have z0 := cell12 z (j := 0) rfl
                  have z1 := cell12 z (j := 1) rfl
                  have z2 := cell12 z (j := 2) rfl
                  have z3 := cell12 z (j := 3) rfl
                  have z4 := cell12 z (j := 4) rfl
                  have z5 := cell12 z (j := 5) rfl
                  clear z
                  go_simp) ?_
                repeat (first | refine wpCan_move rfl ?_ | (refine wpCan_cons rfl ?_; intro K hK; go_simp; refine hK _ _ _ ?_; clear hK K))
                refine wpCan_read (.slice A n c) rfl rfl hS0 (fun u hu => by have z := cell12 (((hSt.out u).1 hu).1.trans r5.out) (j := 1) rfl; go_simp) ?_
                refine wpCan_move rfl ?_
                refine wpCan_move rfl ?_
                refine wpCan_read (.slice (cutA 1 A c frm) (upt - frm) (c - frm)) rfl rfl hS0 (fun u hu => by have z := hsl.out u; go_simp) ?_
                refine wpCan_cons rfl ?_
                intro K hK
                go_simp
                refine htc.out.mono ?_
                rintro e w8 ⟨v8, rfl, ho8, hb8⟩
                obtain ⟨TA, tc, rfl, htl⟩ := own_shape ho8
                refine ⟨St, (hSt.out _).2 ⟨hb8.block q hq7, hb8.block _ hp7, hb8.block ga hg7⟩, fun _ h => h, hK _ _ _ ?_⟩
                clear hK K
                repeat (first | refine wpCan_move rfl ?_ | (refine wpCan_cons rfl ?_; intro K hK; go_simp; refine hK _ _ _ ?_; clear hK K))
                have hadd := add_any w7.drew w8 B B0 g gm (fun k => X k ∨ k = wr.heap.size ∨ k = ga) o2 ⟨i, pln, frm, upt, ⟨lang, name, file, style, ap, nol⟩, key, mid (Ln.texts data 0) fi la⟩ TA tc hC7.out (by show B ≤ w7.heap.size; omega) hb8 (own_q ho8) htl (by show key.length ≤ _; omega) (by omega) hg0 hgm0 (fun k hk => by
                  have hs8 : w7.heap.size ≤ w8.heap.size := hb8.size
                  have hww := (hXe.out k)
                  rcases hk with hk | hk | hk
                  · have := hXe.out k hk; omega
                  · omega
                  · omega)
                simp only [darr] at hadd
                replace hb8 := Lib.hid hb8
                clear ho8
                refine wpCan_cons rfl ?_
                intro K hK
                go_simp
                refine hadd.mono ?_
                rintro e w9 ⟨rfl, hC9, hb9, hx9⟩
                rw [← hd.out, hlay.out i S _] at hC9
                refine ⟨St, (hSt.out _).2 ⟨(hx9 q (.inl hXq)).trans (hb8.out.block q hq7), (hx9 _ (.inr (.inl rfl))).trans (hb8.out.block _ hp7), (hx9 ga (.inr (.inr rfl))).trans (hb8.out.block ga hg7)⟩, fun _ h => h, hK _ _ _ ?_⟩
                clear hK K
                have hC10 := Lib.hid (hC9.weak (Y := X) fun _ h => .inl h)
                have hfX : Hid (∀ k, X k → w9.heap[k]? = w2.heap[k]?) := Lib.hid (fun k hk => (hx9 k (.inl hk)).trans ((hb8.out.block k (by have := (hXe.out k hk).2; show k < w7.heap.size; omega)).trans (hfX.out k hk)))
                have hs8 : w7.heap.size ≤ w8.heap.size := hb8.out.size
                have hs9 := hb9.size
                have hbX : Hid (Below B0 w w9) := Lib.hid (((show Below B0 w w7.drew from below_drewN hbX.out 1).trans (hb8.out.mono (by have := hbX.out.size; show B0 ≤ w7.heap.size; omega))).trans hb9)
                clear hC9 hx9 hb9 hadd
                refine wpCan_nil ?_
                go_wp2_with fail
                go_roundw
                case rel => exact ⟨j + 1, _, by omega, by go_num, by simp; omega, hst2, hC10, hfX, hbX, by omega⟩
                case measure => simp [intOf]; omega
    · have hfin : Hid (Ck.fences i S F out = (Ck.noF, o2)) := Lib.hid (by rw [← hst.out]; exact Ck.fences_end (by rw [hnf.out]; omega) i S o2)
      obtain ⟨k0, k1, k2, k3⟩ := four hr6
      have kf := blk_free hr6
      have e0 := set_same hr6 (o := 0) (v := .int .i64 0) rfl
      have e1 := set_same hr6 (o := 1) (v := .string ⟨#[]⟩) rfl
      have e2 := set_same hr6 (o := 2) (v := .int .i64 0) rfl
      have e3 := set_same hr6 (o := 3) (v := .string ⟨#[]⟩) rfl
      clear hr5 hst
      go_wp2_with fail
      try rw [e0, e1, e2, e3]
      exact bodyPost_ret (v := fltv ⟨0, [], 0, []⟩) (by rw [results_cell1 rfl]; go_simp <;> rfl) rfl ⟨by rw [hfin.out]; rfl, by rw [hfin.out]; exact fun _ => ⟨hCr.out.weak fun _ h => False.elim h, ho2l⟩, hbr.out⟩
end Go.Proofs.YtmmgfoepfapnkaaGreatDoor

namespace Go.Proofs.YtmmgfoepfapnkaaGreatDoor
open Go.RowKit Go.Maps
attribute [local go_sem] canOp readsAs readUpon

/-- two results, the second a struct in a variable -/
theorem results_tmp_cell {fn : Func} {p u : Tmp} {ty : TypeId} (h : fn.results = #[.tmp u, .cell p ty]) (tmps : Array Value) (P : Program) (w : World) :
    (results fn tmps).run P w =
      ((asAddr (tmps.getD p undef)).run P w).andThen fun a w₁ => ((loadVar ty a).run P w₁).andThen fun x w₂ => .ok (.tuple #[tmps.getD u undef, x]) w₂ := by
  simp only [results, h]
  simp [Sem.run_bind, Result.andThen]
theorem set_four {w : World} {g k : Nat} (h : k ≠ g) (a b c d : Value) : ((((w.setCell ⟨g, 0, none⟩ a).setCell ⟨g, 1, none⟩ b).setCell ⟨g, 2, none⟩ c).setCell ⟨g, 3, none⟩ d).heap[k]? = w.heap[k]? := by
  rw [Below.heap_setCell _ _ _ _ h, Below.heap_setCell _ _ _ _ h, Below.heap_setCell _ _ _ _ h, Below.heap_setCell _ _ _ _ h]
theorem KMap.empty : KMap [] (.map []) := fun _ => ⟨rfl, rfl⟩
theorem Ck.docs_at {F : List UInt8 → List Bk.Pl} {l : List Ck.Src} {k : Nat} (h : k < l.length) (out : List Ck.Def) : Ck.docs F k (l.drop k) out = if (Ck.fences k l[k] (F l[k].data) out).1.code = 0 then Ck.docs F (k + 1) (l.drop (k + 1)) (Ck.fences k l[k] (F l[k].data) out).2 else ((Ck.fences k l[k] (F l[k].data) out).1, []) := by
  rw [List.drop_eq_getElem_cons h]; rfl

set_option maxHeartbeats 8000000 in
set_option maxRecDepth 100000 in
theorem collect_any (l : List Ck.Src) (css : List (List Value)) (A : Option Addr) (c : Nat) (w : World) (h : SRow w w.heap.size A l.length l css) (hl : ∀ s ∈ l, s.path.length ≤ 1000000000) (hn : l.length ≤ 1000000) (hdl : ∀ s ∈ l, s.data.length ≤ 9223372036854775807) (hT : ATabs w) (h2 : 2 ≤ w.heap.size) :
    Calls Tryz.prog 23 #[.slice A l.length c] w fun e w' => (∃ v, e = .returned (.tuple #[v, fltv (Ck.collect Ck.places l).1]) ∧ OwnD w' w.heap.size v (Ck.collect Ck.places l).2) ∧ Below w.heap.size w w' := by
  have h0 := heap_alloc_new w (.cells #[.int .i64 0, .string ⟨#[]⟩, .int .i64 0, .string ⟨#[]⟩] 46)
  have hba := ext_alloc w (.cells #[.int .i64 0, .string ⟨#[]⟩, .int .i64 0, .string ⟨#[]⟩] 46)
  have htl := fun w' (hb : Below w.heap.size w w') => tooLong_any l css A c w' (h.keep hb hb.size) hl (by omega) hdl
  have hbp := fun w' (hb : Below w.heap.size w w') => badPath_any l css A c w' (h.keep hb hb.size) hl hn (tabs_low hT hb h2)
  have hS := Lib.hid h
  replace hl := Lib.hid hl
  replace hT := Lib.hid hT
  have hmm := @run_makeMap Tryz.prog
  have hcol : ∀ F, (Ck.tooLong l) = F → F.code ≠ 0 → Ck.collect Ck.places l = (F, []) := fun F e hc => by unfold Ck.collect; rw [e, if_pos hc]
  have hcol2 : ∀ F, (Ck.tooLong l).code = 0 → Ck.badPath [] l = F → F.code ≠ 0 → Ck.collect Ck.places l = (F, []) := fun F e0 e hc => by unfold Ck.collect; rw [e, if_neg (by rw [e0]; decide), if_pos hc]
  have hcol3 : (Ck.tooLong l).code = 0 → (Ck.badPath [] l).code = 0 → Ck.collect Ck.places l = Ck.docs Ck.places 0 l [] := fun e0 e => by unfold Ck.collect; rw [if_neg (by rw [e0]; decide), if_neg (by rw [e]; decide)]
  replace hcol3 := Lib.hid hcol3
  replace hcol2 := Lib.hid hcol2
  replace hcol := Lib.hid hcol
  have h16 : (Ck.tooLong l).code = 0 → l.length ≤ 16 ∧ ∀ s ∈ l, s.data.length ≤ 65536 := fun e => by
    unfold Ck.tooLong at e
    split at e
    · cases e
    · refine ⟨by omega, ?_⟩
      cases hf : l.find? (fun s => decide (65536 < s.data.length)) with
      | some x => rw [hf] at e; cases e
      | none =>
        rw [List.find?_eq_none] at hf
        intro s hs
        have := hf s hs
        simp only [decide_eq_true_eq] at this
        omega
  replace h16 := Lib.hid h16
  clear h
  obtain ⟨q, hq⟩ : ∃ q, w.heap.size = q := ⟨_, rfl⟩
  rw [hq] at h0 hba htl hbp h2
  obtain ⟨F1, hF1⟩ : ∃ F1, Ck.tooLong l = F1 := ⟨_, rfl⟩
  rw [hF1] at htl
  obtain ⟨tc, tp, tl, tn⟩ := F1
  obtain ⟨F2, hF2⟩ : ∃ F2, Ck.badPath [] l = F2 := ⟨_, rfl⟩
  rw [hF2] at hbp
  obtain ⟨bc, bp, bl, bn⟩ := F2
  simp only [fltv, fcells] at htl hbp
  go_enter Tryz.func23, Tryz.ntmps23
  go_wp2_with fail
  refine (htl _ hba).mono ?_
  rintro e w1 ⟨rfl, hb1⟩
  go_upto_region 2 with fail
  have hb1' := ext_trans hb1 (ext_alloc w1 (.cells #[.int .i64 (tc : Int), .string (bs tp), .int .i64 (tl : Int), .string (bs tn)] 46))
  have g1 := heap_alloc_new w1 (.cells #[.int .i64 (tc : Int), .string (bs tp), .int .i64 (tl : Int), .string (bs tn)] 46)
  obtain ⟨wb, hwb⟩ : ∃ wb, w1.alloc (.cells #[.int .i64 (tc : Int), .string (bs tp), .int .i64 (tl : Int), .string (bs tn)] 46) = wb := ⟨_, rfl⟩
  rw [hwb] at hb1' g1 ⊢
  have h1 := (keep h0 hb1').1
  have hbb : Below q w wb := hba.trans (hb1'.mono (by have := hba.size; omega))
  obtain ⟨q1, hq1⟩ : ∃ q1, w1.heap.size = q1 := ⟨_, rfl⟩
  rw [hq1] at g1 ⊢
  have hz1 := (Array.getElem?_eq_some_iff.1 g1).1
  have hz0 := (Array.getElem?_eq_some_iff.1 h1).1
  have c1 := cell12 g1 (j := 0) rfl
  have hq1z : q < q1 := by have z1 := (Array.getElem?_eq_some_iff.1 h0).1; have z2 := hb1.size; omega
  clear hb1 hb1' hwb h0
  by_cases ht : tc = 0
  · subst ht
    have c1' : wb.cell? ⟨q1, 0, none⟩ = some (.int .i64 0) := c1
    clear c1
    go_wp2_with fail
    refine (hbp _ hbb).mono ?_
    rintro e w2 ⟨rfl, hb2⟩
    go_upto_region 5 with fail
    have hb2' := ext_trans hb2 (ext_alloc w2 (.cells #[.int .i64 (bc : Int), .string (bs bp), .int .i64 (bl : Int), .string (bs bn)] 46))
    have g2 := heap_alloc_new w2 (.cells #[.int .i64 (bc : Int), .string (bs bp), .int .i64 (bl : Int), .string (bs bn)] 46)
    obtain ⟨wc, hwc⟩ : ∃ wc, w2.alloc (.cells #[.int .i64 (bc : Int), .string (bs bp), .int .i64 (bl : Int), .string (bs bn)] 46) = wc := ⟨_, rfl⟩
    rw [hwc] at hb2' g2 ⊢
    have h2c := (keep h1 hb2').1
    have hbc : Below q w wc := hbb.trans (hb2'.mono (by omega))
    obtain ⟨q2, hq2⟩ : ∃ q2, w2.heap.size = q2 := ⟨_, rfl⟩
    have hq12 : q1 < q2 := by have := hb2.size; omega
    rw [hq2] at g2 ⊢
    have hz2 := (Array.getElem?_eq_some_iff.1 g2).1
    have c2 := cell12 g2 (j := 0) rfl
    clear hb2 hb2' hwc h1 g1 c1' hbb htl hbp hba
    by_cases hbz : bc = 0
    · subst hbz
      have c2' : wc.cell? ⟨q2, 0, none⟩ = some (.int .i64 0) := c2
      clear c2 g2
      obtain ⟨hl16, hd16⟩ := h16.out (by rw [hF1])
      have hct := hcol3.out (by rw [hF1]) (by rw [hF2])
      have hC0 : Coll ((wc.alloc (.map #[] 0)).alloc (.cells #[.slice none 0 0, .map (some wc.heap.size)] 67)) (wc.heap.size + 2) (wc.heap.size + 1) wc.heap.size (fun _ => False) [] :=
        ⟨.slice none 0 0, 0, .map [], blk_two _ _ _, OwnD.nil _ _, World.ownsMap.alloc (World.ownsMap_made wc _ _ _) _, Nat.le_refl _, KMap.empty, by omega, by omega, by omega, fun _ hk => False.elim hk⟩
      have hbd : Below wc.heap.size wc ((wc.alloc (.map #[] 0)).alloc (.cells #[.slice none 0 0, .map (some wc.heap.size)] 67)) := ext_trans (ext_alloc _ _) (ext_alloc _ _)
      replace hd16 := Lib.hid hd16
      replace hct := Lib.hid hct
      replace hbc := Lib.hid hbc
      replace h2c := Lib.hid h2c
      replace hl16 := Lib.hid hl16
      clear hF1 hF2
      go_wp2_with fail
      obtain ⟨wd, hwd⟩ : ∃ wd, (wc.alloc (.map #[] 0)).alloc (.cells #[.slice none 0 0, .map (some wc.heap.size)] 67) = wd := ⟨_, rfl⟩
      rw [hwd] at hC0 hbd ⊢
      obtain ⟨gm, hgm⟩ : ∃ gm, wc.heap.size = gm := ⟨_, rfl⟩
      rw [hgm] at hC0 hbd hz2 ⊢
      have hqg : q < gm := by omega
      replace hC0 := Lib.hid hC0
      replace hbd := Lib.hid hbd
      clear hwd
      go_loopw [26] (fun u wr => ∃ (k : Nat) (out : List Ck.Def), k ≤ l.length ∧ u = .int .i64 (k : Int) ∧ out.length ≤ 200 ∧ Hid (Ck.docs Ck.places k (l.drop k) out = Ck.docs Ck.places 0 l []) ∧ Hid (Coll wr (gm + 2) (gm + 1) gm (fun _ => False) out) ∧ Hid (Below gm wc wr)) (fun u _ => l.length - (intOf u).toNat)
      case atStart => exact ⟨0, [], by omega, rfl, by simp, Lib.hid rfl, hC0, hbd⟩
      case round =>
        obtain ⟨k, out, hk, rfl, hol, hst, hCr, hbr⟩ := hrel
        have hr0 := (hbr.out.block q hqg).trans h2c.out
        have hbw : Below q w wr := hbc.out.trans (hbr.out.mono (by omega))
        have hgr : gm + 2 ≤ wr.heap.size := by
          obtain ⟨_, _, _, y1, _, _, _, _, _, _, _, _⟩ := hCr.out
          have := (Array.getElem?_eq_some_iff.1 y1).1
          omega
        rcases Nat.lt_or_ge k l.length with hlt | hge
        · obtain ⟨b, o, rfl, hbb, hc⟩ := (hS.out.keep (by rw [hq]; exact hbw) (Nat.le_refl _)).src_at (by omega)
          obtain ⟨LA, lc, y1, y2, c0, c1⟩ := hc k hlt
          have hpl := hl.out _ (List.getElem_mem hlt)
          have hdd := hd16.out _ (List.getElem_mem hlt)
          have hstep := (Ck.docs_at (F := Ck.places) hlt out).symm.trans hst.out
          obtain ⟨x, hx⟩ : ∃ x, l[k] = x := ⟨_, rfl⟩
          rw [hx] at y1 y2 c0 c1 hpl hdd hstep
          obtain ⟨path, data⟩ := x
          simp only at y1 y2 c0 c1 hpl hdd hstep
          obtain ⟨ws, hws⟩ : ∃ ws, wr.alloc (.cells #[.string (bs path), .slice LA data.length lc] 33) = ws := ⟨_, rfl⟩
          have hbs : Below wr.heap.size wr ws := by rw [← hws]; exact ext_alloc _ _
          have gs := heap_alloc_new wr (.cells #[.string (bs path), .slice LA data.length lc] 33)
          rw [hws] at gs
          rw [hq] at y2
          have hda := document_any ws (gm + 2) gm (gm + 1) gm (fun _ => False) out k ⟨path, data⟩ LA lc (hCr.out.ext hbs) (by have := hbs.size; omega) ((y2.below (hbs.mono (by omega))).more (by omega)) y1 hdd hpl (tabs_low hT.out (show Below q w ws from hbw.trans (hbs.mono (by omega))) h2) (by omega) hol (by omega) (Nat.le_refl _) (by omega) (by omega)
          obtain ⟨RF, hRF⟩ : ∃ RF, Ck.fences k ⟨path, data⟩ (Ck.places data) out = RF := ⟨_, rfl⟩
          rw [hRF] at hda hstep
          obtain ⟨⟨fc, fp, fl, fn⟩, out3⟩ := RF
          obtain ⟨dn, hdn⟩ : ∃ dn, data.length = dn := ⟨_, rfl⟩
          simp only [fltv, fcells, hdn] at hda hstep
          rw [hdn] at c1 hws gs
          have s0 := cell12 gs (j := 0) rfl
          have s1 := cell12 gs (j := 1) rfl
          have hbws : Below gm wc ws := hbr.out.trans (hbs.mono (by omega))
          clear hc hx hRF gs y1 y2 hbs
          replace hr0 := Lib.hid ((hbws.block q hqg).trans h2c.out)
          replace hbws := Lib.hid hbws
          replace hstep := Lib.hid hstep
          go_wp2_with fail
          refine hda.mono ?_
          rintro e w3 ⟨rfl, hC3, hb3⟩
          go_upto_region 12 with fail
          have g4 := heap_alloc_new w3 (.cells #[.int .i64 (fc : Int), .string (bs fp), .int .i64 (fl : Int), .string (bs fn)] 46)
          have hb4 := ext_alloc w3 (.cells #[.int .i64 (fc : Int), .string (bs fp), .int .i64 (fl : Int), .string (bs fn)] 46)
          obtain ⟨w4, hw4⟩ : ∃ w4, w3.alloc (.cells #[.int .i64 (fc : Int), .string (bs fp), .int .i64 (fl : Int), .string (bs fn)] 46) = w4 := ⟨_, rfl⟩
          rw [hw4] at g4 hb4 ⊢
          have hb9 : Hid (Below gm wc w4) := Lib.hid ((hbws.out.trans hb3).trans (hb4.mono (by have := (hbws.out.trans hb3).size; omega)))
          have hr4 := (hb9.out.block q hqg).trans h2c.out
          have hbq : Hid (Below q w w4) := Lib.hid (hbc.out.trans (hb9.out.mono (by omega)))
          obtain ⟨q4, hq4⟩ : ∃ q4, w3.heap.size = q4 := ⟨_, rfl⟩
          have hqq4 : q < q4 := by have := (hbws.out.trans hb3).size; omega
          rw [hq4] at g4 ⊢
          have c4 := cell12 g4 (j := 0) rfl
          by_cases hfz : fc = 0
          · subst hfz
            have c4' : w4.cell? ⟨q4, 0, none⟩ = some (.int .i64 0) := c4
            obtain ⟨hC4, hol3⟩ := hC3 rfl
            have hC5 := Lib.hid (hC4.ext hb4)
            have hst2 := Lib.hid (show Ck.docs Ck.places (k + 1) (l.drop (k + 1)) out3 = Ck.docs Ck.places 0 l [] by rw [← hstep.out, if_pos rfl])
            clear hC3 hC4 hb3 hb4 hw4 c4 g4 hda hr4 s0 s1
            go_wp2_with fail
            go_roundw
            case rel => exact ⟨_, _, _, _, _, ⟨k + 1, by omega, by go_num, out3, hol3, hst2, hC5⟩, rfl, rfl, rfl, rfl, rfl⟩
            case measure => simp [intOf]; omega
          · have hfin : Hid (Ck.collect Ck.places l = (⟨fc, fp, fl, fn⟩, [])) := Lib.hid (by rw [hct.out, ← hstep.out, if_neg hfz])
            have htz : ((fc : Int) == 0) = false := by rw [beq_eq_false_iff_ne]; omega
            clear hC3 hb3 hb4 hw4 hda s0 s1
            go_wp2_with fail
            obtain ⟨k0, k1, k2, k3⟩ := four hr4
            have kf := blk_free hr4
            obtain ⟨j0, j1, j2, j3⟩ := four g4
            obtain ⟨St, hSt⟩ : ∃ St : World → Prop, Hid (∀ u, St u ↔ u.heap[q4]? = w4.heap[q4]?) := ⟨_, Lib.hid fun _ => Iff.rfl⟩
            have hS0 : St w4.drew := (hSt.out _).2 rfl
            have hbk := Lib.hid g4
            clear hr4 g4 j0 j1 j2 j3
            refine wp_region_can [(true, 0), (true, 1), (false, 2)] St hS0 (by kernel_rfl) (by kernel_rfl) (by kernel_rfl) (fun _ _ d _ _ h => by cases d <;> exact h) ?_
            refine wpCan_read (.agg #[.int .i64 (fc : Int), .string (bs fp), .int .i64 (fl : Int), .string (bs fn)]) rfl rfl hS0 (fun u hu => by
              obtain ⟨z0, z1, z2, z3⟩ := four (((hSt.out u).1 hu).trans hbk.out)
              go_simp) ?_
            refine wpCan_cons rfl ?_
            intro K hK
            go_simp
            refine hK _ _ _ ?_
            clear hK K
            refine wpCan_cons rfl ?_
            intro K hK
            go_simp
            refine ⟨St, (hSt.out _).2 (set_four (by omega) _ _ _ _), fun _ h => h, hK _ _ _ ?_⟩
            clear hK K
            refine wpCan_nil ?_
            go_wp2_with fail
            exact bodyPost_ret (v := .tuple #[.slice none 0 0, fltv ⟨fc, fp, fl, fn⟩]) (by rw [results_tmp_cell rfl]; go_simp <;> rfl) rfl ⟨⟨_, by rw [hfin.out], by rw [hfin.out]; exact OwnD.nil _ _⟩, by rw [hq]; exact below_drewN (below_four hbq.out (Nat.le_refl _) _ _ _ _) 1⟩
        · have hdo : Ck.docs Ck.places 0 l [] = (Ck.noF, out) := by
            rw [← hst.out, List.drop_eq_nil_of_le (by omega)]; rfl
          have hfin : Hid (Ck.collect Ck.places l = (Ck.noF, out)) := Lib.hid (by rw [hct.out, hdo])
          obtain ⟨v, n, D, y1, hown, _, _, _, _, _, _, _⟩ := hCr.out
          have cv := cell12 y1 (j := 0) rfl
          obtain ⟨k0, k1, k2, k3⟩ := four hr0
          have kf := blk_free hr0
          have e0 := set_same hr0 (o := 0) (v := .int .i64 0) rfl
          have e1 := set_same hr0 (o := 1) (v := .string ⟨#[]⟩) rfl
          have e2 := set_same hr0 (o := 2) (v := .int .i64 0) rfl
          have e3 := set_same hr0 (o := 3) (v := .string ⟨#[]⟩) rfl
          have hkl : ¬ (k : Int) < (l.length : Int) := by omega
          have hOw := Lib.hid (hown.base (B' := q) (by omega))
          replace hbw := Lib.hid hbw
          clear y1 hown hdo
          go_wp2_with fail
          exact bodyPost_ret (v := .tuple #[v, fltv ⟨0, [], 0, []⟩]) (by rw [results_tmp_cell rfl]; go_simp <;> rfl) rfl ⟨⟨_, by rw [hfin.out]; rfl, by rw [hfin.out]; exact hOw.out⟩, hbw.out⟩
    · have hfin := hcol2.out _ (by rw [hF1]) hF2 hbz
      have htz : ((bc : Int) == 0) = false := by rw [beq_eq_false_iff_ne]; omega
      have hq2z : q < q2 := by omega
      replace hbc := Lib.hid hbc
      replace hfin := Lib.hid hfin
      go_wp2_with fail
      obtain ⟨k0, k1, k2, k3⟩ := four h2c
      have kf := blk_free h2c
      obtain ⟨j0, j1, j2, j3⟩ := four g2
      obtain ⟨St, hSt⟩ : ∃ St : World → Prop, Hid (∀ u, St u ↔ u.heap[q2]? = wc.heap[q2]?) := ⟨_, Lib.hid fun _ => Iff.rfl⟩
      have hS0 : St wc.drew := (hSt.out _).2 rfl
      have hbk := Lib.hid g2
      clear h2c g2 j0 j1 j2 j3
      refine wp_region_can [(true, 0), (true, 1), (false, 2)] St hS0 (by kernel_rfl) (by kernel_rfl) (by kernel_rfl) (fun _ _ d _ _ h => by cases d <;> exact h) ?_
      refine wpCan_read (.agg #[.int .i64 (bc : Int), .string (bs bp), .int .i64 (bl : Int), .string (bs bn)]) rfl rfl hS0 (fun u hu => by
        obtain ⟨z0, z1, z2, z3⟩ := four (((hSt.out u).1 hu).trans hbk.out)
        go_simp) ?_
      refine wpCan_cons rfl ?_
      intro K hK
      go_simp
      refine hK _ _ _ ?_
      clear hK K
      refine wpCan_cons rfl ?_
      intro K hK
      go_simp
      refine ⟨St, (hSt.out _).2 (set_four (by omega) _ _ _ _), fun _ h => h, hK _ _ _ ?_⟩
      clear hK K
      refine wpCan_nil ?_
      go_wp2_with fail
      exact bodyPost_ret (v := .tuple #[.slice none 0 0, fltv ⟨bc, bp, bl, bn⟩]) (by rw [results_tmp_cell rfl]; go_simp <;> rfl) rfl ⟨⟨_, by rw [hfin.out], by rw [hfin.out]; exact OwnD.nil _ _⟩, by rw [hq]; exact below_drewN (below_four hbc.out (Nat.le_refl _) _ _ _ _) 1⟩
  · have hfin := hcol.out _ hF1 ht
    have htz : ((tc : Int) == 0) = false := by rw [beq_eq_false_iff_ne]; omega
    replace hbb := Lib.hid hbb
    replace hfin := Lib.hid hfin
    go_wp2_with fail
    obtain ⟨k0, k1, k2, k3⟩ := four h1
    have kf := blk_free h1
    obtain ⟨j0, j1, j2, j3⟩ := four g1
    obtain ⟨St, hSt⟩ : ∃ St : World → Prop, Hid (∀ u, St u ↔ u.heap[q1]? = wb.heap[q1]?) := ⟨_, Lib.hid fun _ => Iff.rfl⟩
    have hS0 : St wb.drew := (hSt.out _).2 rfl
    have hbk := Lib.hid g1
    clear h1 g1 j0 j1 j2 j3
    refine wp_region_can [(true, 0), (true, 1), (false, 2)] St hS0 (by kernel_rfl) (by kernel_rfl) (by kernel_rfl) (fun _ _ d _ _ h => by cases d <;> exact h) ?_
    refine wpCan_read (.agg #[.int .i64 (tc : Int), .string (bs tp), .int .i64 (tl : Int), .string (bs tn)]) rfl rfl hS0 (fun u hu => by
      obtain ⟨z0, z1, z2, z3⟩ := four (((hSt.out u).1 hu).trans hbk.out)
      go_simp) ?_
    refine wpCan_cons rfl ?_
    intro K hK
    go_simp
    refine hK _ _ _ ?_
    clear hK K
    refine wpCan_cons rfl ?_
    intro K hK
    go_simp
    refine ⟨St, (hSt.out _).2 (set_four (by omega) _ _ _ _), fun _ h => h, hK _ _ _ ?_⟩
    clear hK K
    refine wpCan_nil ?_
    go_wp2_with fail
    exact bodyPost_ret (v := .tuple #[.slice none 0 0, fltv ⟨tc, tp, tl, tn⟩]) (by rw [results_tmp_cell rfl]; go_simp <;> rfl) rfl ⟨⟨_, by rw [hfin.out], by rw [hfin.out]; exact OwnD.nil _ _⟩, by rw [hq]; exact below_drewN (below_four hbb.out (Nat.le_refl _) _ _ _ _) 1⟩
end Go.Proofs.YtmmgfoepfapnkaaGreatDoor

namespace Go.Proofs.YtmmgfoepfapnkaaGreatDoor
open Go.RowKit

set_option maxRecDepth 100000
def knD0 : List UInt8 := [120, 10, 126, 126, 126, 32, 103, 111, 32, 110, 97, 109, 101, 61, 98, 32, 99, 111, 109, 109, 101, 110, 116, 61, 35, 13, 10, 99, 13, 10, 13, 10, 126, 126, 126, 10, 62, 32, 126, 126, 126, 32, 110, 97, 109, 101, 61, 113, 10, 62, 32, 126, 126, 126, 10, 10, 126, 126, 126, 32, 110, 97, 109, 101, 61, 98, 32, 97, 112, 112, 101, 110, 100, 10, 100, 10, 126, 126, 126, 10, 126, 126, 126, 32, 102, 105, 108, 101, 61, 102, 10, 126, 126, 126, 10]
def knD2 : List UInt8 := [10, 126, 126, 126, 32, 110, 97, 109, 101, 61, 98, 32, 97, 112, 112, 101, 110, 100, 10, 126, 126, 126, 10]
def knD3 : List UInt8 := [126, 126, 126, 32, 110, 97, 109, 101, 61, 98, 32, 110, 97, 109, 101, 61, 99, 10, 126, 126, 126, 10]
def knA : Ck.Def := ⟨0, 1, 27, 32, ⟨[103, 111], [98], [], [35], false, false⟩, [98], [[99], []]⟩
def knB : Ck.Def := ⟨0, 8, 74, 76, ⟨[103, 111], [98], [], [35], true, false⟩, [98], [[100]]⟩
def knC : Ck.Def := ⟨0, 11, 91, 91, ⟨[], [], [102], [], false, false⟩, [102], []⟩
theorem kn_ck0 : Ck.collect Ck.places [⟨[97], knD0⟩] = (Ck.noF, [knA, knB, knC]) := by kernel_rfl
theorem kn_ck1 : Ck.collect Ck.places [⟨[97], knD0⟩, ⟨[97], knD0⟩] = (⟨12, [97], 0, []⟩, []) := by kernel_rfl
theorem kn_ck2 : Ck.collect Ck.places [⟨[97], knD2⟩] = (⟨14, [97], 1, [98]⟩, []) := by kernel_rfl
theorem kn_ck3 : Ck.collect Ck.places [⟨[97], knD3⟩] = (⟨13, [97], 0, []⟩, []) := by kernel_rfl
theorem kn_ck4 : Ck.of [knA, knB, knC] [98] = [knA, knB] := by kernel_rfl
theorem kn_ck5 : Ck.of [knA, knB, knC] [113] = [] := by kernel_rfl
theorem kn_ck6 : Ck.keys [knA, knB, knC] = [[98], [102]] := by kernel_rfl
theorem kn_ck7 : Ck.files [knA, knB, knC] = [[102]] := by kernel_rfl
theorem kn_ck8 : Ck.path [97, 32, 98] = true := by kernel_rfl
theorem kn_ck9 : Ck.path [97, 58, 98] = false := by kernel_rfl
theorem kn_ckA : Ck.path [] = false := by kernel_rfl
end Go.Proofs.YtmmgfoepfapnkaaGreatDoor
