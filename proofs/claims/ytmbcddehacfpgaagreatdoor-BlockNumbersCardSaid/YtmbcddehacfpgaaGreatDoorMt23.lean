/- The document's own parser of blocks: a line that is no line of an open fence, behind its containers. The document's own parser of blocks: a line that begins a fence. The document's own parser of blocks: a line of an open fence. The document's own parser of blocks: the containers that a line begins. The document's own parser of blocks: one line; and how far a line makes what lies grow. Trees of blocks, as they lie in memory; the document's own tree of its nodes. -/
import Derived.Test.YtmbcddehacfpgaaGreatDoorMt13
import Derived.Test.YtmbcddehacfpgaaGreatDoorMt19
import Derived.Test.YtmbcddehacfpgaaGreatDoorMt03
import Derived.StillTailTactics
import Derived.Test.YtmbcddehacfpgaaGreatDoorMt02
import Derived.Laws.ResultCell
namespace Go.Proofs.YtmbcddehacfpgaaGreatDoor
open Go.RowKit
attribute [local go_sem] canOp readsAs readUpon

section
variable {w w' : World} {B P : Nat} {E : Nat → Option Part} {A : Nat → Nat} {KV : Nat → Value} {ov pv : Value} {st : Bk.St}
def keyIn : Key → Option Key
  | .ext 0 => none
  | .ext (i + 1) => some (.ext i)
  | k => some k
theorem keyIn_inj (i j : Key) (h : keyIn i = keyIn j) : i = j := by
  cases i with
  | ext a =>
    cases j with
    | ext b =>
      rcases a with _ | a <;> rcases b with _ | b <;> simp [keyIn] at h
      · rfl
      · rw [h]
    | _ => rcases a with _ | a <;> simp [keyIn] at h
  | par => cases j with
    | ext b => rcases b with _ | b <;> simp [keyIn] at h
    | _ => simp [keyIn] at h; try rfl
  | opn => cases j with
    | ext b => rcases b with _ | b <;> simp [keyIn] at h
    | _ => simp [keyIn] at h; try rfl
  | pls => cases j with
    | ext b => rcases b with _ | b <;> simp [keyIn] at h
    | _ => simp [keyIn] at h; try rfl
  | node a => cases j with
    | ext b => rcases b with _ | b <;> simp [keyIn] at h
    | _ => simp [keyIn] at h; try rw [h]
  | kid a => cases j with
    | ext b => rcases b with _ | b <;> simp [keyIn] at h
    | _ => simp [keyIn] at h; try rw [h]
def keyOut : Key → Key
  | .ext i => .ext (i + 1)
  | k => k
theorem keyOut_inj (i j : Key) (h : keyOut i = keyOut j) : i = j := by
  cases i <;> cases j <;> simp [keyOut] at h <;> first | rfl | rw [h]
theorem ext_in (h : Hp w B (parts E P A KV ov pv st)) {a : Part} (hb : Below w.heap.size w w') (ha : a.holds w' B) (hat : ∀ g, a.block = some g → w.heap.size ≤ g) : Hp w' B (parts (shiftE a E) P A KV ov pv st) := by
  have h0 : Hp w B (fun k : Option Key => match k with | none => none | some k => parts E P A KV ov pv st k) :=
    ⟨fun k b hk => by cases k with
      | none => cases hk
      | some k => exact h.holds k b hk, fun i j b c g hi hj hb hc => by
        cases i with
        | none => cases hi
        | some i => cases j with
          | none => cases hj
          | some j => rw [h.apart i j b c g hi hj hb hc]⟩
  have h1 := h0.umore (k := none) a rfl hb ha hat
  refine h1.along keyIn keyIn_inj fun k => ?_
  cases k with
  | ext i => rcases i with _ | i <;> rfl
  | _ => rfl
theorem ext_out {a : Part} (h : Hp w B (parts (shiftE a E) P A KV ov pv st)) : Hp w B (parts E P A KV ov pv st) :=
  h.along keyOut keyOut_inj fun k => by cases k <;> rfl
end

theorem parts_para (E : Nat → Option Part) (P : Nat) (A : Nat → Nat) (KV : Nat → Value) (ov pv : Value) (st : Bk.St) (o : Option Nat) (k : Key) :
    parts E P A KV ov pv { st with para := o } k = upd (parts E P A KV ov pv st) .par (.blk P ((parCells A ov pv st).setIfInBounds 2 (optPtr A o)) 64) k := by cases k <;> rfl
theorem parts_fence (E : Nat → Option Part) (P : Nat) (A : Nat → Nat) (KV : Nat → Value) (ov pv : Value) (st : Bk.St) (o : Option Nat) (k : Key) :
    parts E P A KV ov pv { st with fence := o } k = upd (parts E P A KV ov pv st) .par (.blk P ((parCells A ov pv st).setIfInBounds 3 (optPtr A o)) 64) k := by cases k <;> rfl
theorem parts_line (E : Nat → Option Part) (P : Nat) (A : Nat → Nat) (KV : Nat → Value) (ov pv : Value) (st : Bk.St) (n : Nat) (k : Key) :
    parts E P A KV ov pv { st with line := n } k = upd (parts E P A KV ov pv st) .par (.blk P ((parCells A ov pv st).setIfInBounds 8 (.int .i64 (n : Int))) 64) k := by cases k <;> rfl
/-- what is open is set -/
theorem set_para {E : Nat → Option Part} {P : Nat} {A : Nat → Nat} {KV : Nat → Value} {ov pv : Value} {st : Bk.St} {w : World} {B : Nat} (h : Hp w B (parts E P A KV ov pv st)) {o : Option Nat} {v : Value} (hv : v = optPtr A o) :
    Hp (w.setCell ⟨P, 2, none⟩ v) B (parts E P A KV ov pv { st with para := o }) := by
  subst hv; exact (h.ustore (k := .par) 2 (optPtr A o) rfl).same fun k => parts_para E P A KV ov pv st o k
theorem set_fence {E : Nat → Option Part} {P : Nat} {A : Nat → Nat} {KV : Nat → Value} {ov pv : Value} {st : Bk.St} {w : World} {B : Nat} (h : Hp w B (parts E P A KV ov pv st)) {o : Option Nat} {v : Value} (hv : v = optPtr A o) :
    Hp (w.setCell ⟨P, 3, none⟩ v) B (parts E P A KV ov pv { st with fence := o }) := by
  subst hv; exact (h.ustore (k := .par) 3 (optPtr A o) rfl).same fun k => parts_fence E P A KV ov pv st o k
theorem set_line {E : Nat → Option Part} {P : Nat} {A : Nat → Nat} {KV : Nat → Value} {ov pv : Value} {st : Bk.St} {w : World} {B : Nat} (h : Hp w B (parts E P A KV ov pv st)) (n : Nat) :
    Hp (w.setCell ⟨P, 8, none⟩ (.int .i64 (n : Int))) B (parts E P A KV ov pv { st with line := n }) :=
  (h.ustore (k := .par) 8 (.int .i64 (n : Int)) rfl).same fun k => parts_line E P A KV ov pv st n k
theorem set_f {E : Nat → Option Part} {P : Nat} {A : Nat → Nat} {KV : Nat → Value} {ov pv : Value} {st : Bk.St} {w : World} {B : Nat} (h : Hp w B (parts E P A KV ov pv st)) (f : Fn.Op) :
    Hp ((((w.setCell ⟨P, 4, none⟩ (.int .u8 (f.c.toNat : Int))).setCell ⟨P, 5, none⟩ (.int .i64 (f.n : Int))).setCell ⟨P, 6, none⟩ (.int .i64 (f.ind : Int))).setCell ⟨P, 7, none⟩ (.string (bs f.info))) B (parts E P A KV ov pv { st with f := f }) := by
  have m1 := h.ustore (k := .par) 4 (.int .u8 (f.c.toNat : Int)) rfl
  have m2 := m1.ustore (k := .par) 5 (.int .i64 (f.n : Int)) rfl
  have m3 := m2.ustore (k := .par) 6 (.int .i64 (f.ind : Int)) rfl
  have m4 := m3.ustore (k := .par) 7 (.string (bs f.info)) rfl
  exact m4.same fun k => by cases k <;> rfl
/-- a node's text is another one -/
theorem set_text {E : Nat → Option Part} {P : Nat} {A : Nat → Nat} {KV : Nat → Value} {ov pv : Value} {st : Bk.St} {w : World} {B : Nat} (h : Hp w B (parts E P A KV ov pv st)) {i : Nat} (hi : i < st.ns.length) (t : List UInt8) :
    Hp (w.setCell ⟨A i, 2, none⟩ (.string (bs t))) B (parts E P A KV ov pv { st with ns := Bk.setText st.ns i t }) := by
  have hs : Bk.setText st.ns i t = st.ns.set i { st.ns[i] with text := t } := by
    unfold Bk.setText
    refine List.ext_getElem? fun n => ?_
    rw [List.getElem?_modify]
    by_cases hn : i = n
    · subst hn; simp [hi]
    · simp [hn]
  have m1 := h.ustore (k := .node i) 2 (.string (bs t)) (by simp only [parts]; rw [List.getElem?_eq_getElem hi]; rfl)
  rw [hs]
  exact m1.same fun k => parts_node E P A KV ov pv st { st.ns[i] with text := t } hi rfl k

theorem Bk.Ok.shut {st : Bk.St} (h : Bk.Ok st) (k : Nat) : Bk.Ok (Bk.shut k st) :=
  ⟨h.pos, fun b hb => h.opn b (List.mem_of_mem_take hb), (fun i hi => by cases hi), (fun i hi => by cases hi), (by
    have := h.few
    simp only [Bk.shut, List.length_take]; omega), h.small, h.root⟩
def fbv (c : UInt8) (n i : Nat) (s : List UInt8) : Value := .agg #[.int .u8 (c.toNat : Int), .int .i64 (n : Int), .int .i64 (i : Int), .string (bs s)]
theorem bk_begv_form (o : Option Fn.Op) : ∃ (c : UInt8) (n i : Nat) (s : List UInt8) (ok : Bool), begv o = .tuple #[fbv c n i s, .bool ok] := by
  rcases o with _ | ⟨c, n, i, s⟩
  · exact ⟨0, 0, 0, [], false, rfl⟩
  · exact ⟨c, n, i, s, true, rfl⟩
theorem bk_headv_form (o : Option (Nat × List UInt8)) : ∃ (n : Nat) (t : List UInt8) (ok : Bool), headv o = .tuple #[.int .i64 (n : Int), .string (bs t), .bool ok] := by
  rcases o with _ | ⟨n, t⟩
  · exact ⟨0, [], false, rfl⟩
  · exact ⟨n, t, true, rfl⟩

section
variable (E : Nat → Option Part) (P : Nat) (A : Nat → Nat) (KV : Nat → Value) (ov pv : Value) (st : Bk.St) (w : World) (B : Nat) (h : Hp w B (parts E P A KV ov pv st)) (hok : Bk.Ok st) (k : Nat) (hk : k ≤ st.opn.length) (s : List UInt8) (al be : Bool)
include h hok hk

set_option maxHeartbeats 1000000 in
set_option maxRecDepth 100000 in
theorem rleaf_empty (hn : Nat) (ht : List UInt8) (ho : Bool) (fc : UInt8) (fn fi : Nat) (fs : List UInt8) (fo : Bool)
    (hhd : ∀ w, Calls Tryz.prog 74 #[.string (bs s)] w fun e w' => e = .returned (.tuple #[.int .i64 (hn : Int), .string (bs ht), .bool ho]) ∧ w = w')
    (hbg : ∀ w, Calls Tryz.prog 75 #[.string (bs s)] w fun e w' => e = .returned (.tuple #[.agg #[.int .u8 (fc.toNat : Int), .int .i64 (fn : Int), .int .i64 (fi : Int), .string (bs fs)], .bool fo]) ∧ Below w.heap.size w w')
    (hem : ∀ w, Calls Tryz.prog 67 #[.string (bs s)] w fun e w' => e = .returned (.bool true) ∧ w = w') :
    Calls Tryz.prog 50 #[ptr P, .string (bs s), .int .i64 (k : Int), .bool al, .bool be] w fun e w' =>
      e = .returned (.tuple #[]) ∧ (∃ A' KV' ov' pv', Hp w' B (parts E P A' KV' ov' pv' (Bk.shut k st))) ∧ Below B w w' := by
  have hfew := hok.few
  have hBw : B ≤ w.heap.size := by have := par_cells h; omega
  replace h := Lib.hid h
  go_enter Tryz.func50, Tryz.ntmps50
  go_wp2_with fail
  refine (hhd _).mono ?_
  rintro e w1 ⟨rfl, rfl⟩
  go_wp2_with fail
  refine (hbg _).mono ?_
  rintro e w1 ⟨rfl, hb1⟩
  have hA := Lib.hid (fun o => h.out.ext (ext_trans hb1 (ext_alloc w1 o)))
  have hz1 := hb1.size
  have hB1 := Lib.hid (fun o => (ext_trans hb1 (ext_alloc w1 o)).mono hBw)
  replace hb1 := Lib.hid hb1
  go_wp2_with fail
  refine (hem _).mono ?_
  rintro e w2 ⟨rfl, rfl⟩
  go_wp2_with fail
  refine (rshut_any E P A KV ov pv st _ B (hA.out _) k hk (by omega)).mono ?_
  rintro e w2 ⟨rfl, ⟨ov2, H2⟩, hb2⟩
  have hres := Lib.hid H2
  replace hb2 := Lib.hid ((hB1.out _).trans hb2)
  go_wp2_with fail
  go_returns
  exact ⟨rfl, ⟨_, _, _, _, hres.out⟩, hb2.out⟩

set_option maxHeartbeats 1000000 in
set_option maxRecDepth 100000 in
theorem rleaf_heading (hn : Nat) (ht : List UInt8) (fc : UInt8) (fn fi : Nat) (fs : List UInt8) (fo : Bool)
    (hhd : ∀ w, Calls Tryz.prog 74 #[.string (bs s)] w fun e w' => e = .returned (.tuple #[.int .i64 (hn : Int), .string (bs ht), .bool true]) ∧ w = w')
    (hbg : ∀ w, Calls Tryz.prog 75 #[.string (bs s)] w fun e w' => e = .returned (.tuple #[.agg #[.int .u8 (fc.toNat : Int), .int .i64 (fn : Int), .int .i64 (fi : Int), .string (bs fs)], .bool fo]) ∧ Below w.heap.size w w')
    (hem : ∀ w, Calls Tryz.prog 67 #[.string (bs s)] w fun e w' => e = .returned (.bool false) ∧ w = w') :
    Calls Tryz.prog 50 #[ptr P, .string (bs s), .int .i64 (k : Int), .bool al, .bool be] w fun e w' =>
      e = .returned (.tuple #[]) ∧ (∃ A' KV' ov' pv', Hp w' B (parts E P A' KV' ov' pv' (Bk.add 5 hn ht [] 0 (Bk.shut k st)))) ∧ Below B w w' := by
  have hfew := hok.few
  have hBw : B ≤ w.heap.size := by have := par_cells h; omega
  replace h := Lib.hid h
  go_enter Tryz.func50, Tryz.ntmps50
  go_wp2_with fail
  refine (hhd _).mono ?_
  rintro e w1 ⟨rfl, rfl⟩
  go_wp2_with fail
  refine (hbg _).mono ?_
  rintro e w1 ⟨rfl, hb1⟩
  have hA := Lib.hid (fun o => h.out.ext (ext_trans hb1 (ext_alloc w1 o)))
  have hz1 := hb1.size
  have hB1 := Lib.hid (fun o => (ext_trans hb1 (ext_alloc w1 o)).mono hBw)
  replace hb1 := Lib.hid hb1
  go_wp2_with fail
  refine (hem _).mono ?_
  rintro e w2 ⟨rfl, rfl⟩
  go_wp2_with fail
  refine (rshut_any E P A KV ov pv st _ B (hA.out _) k hk (by omega)).mono ?_
  rintro e w2 ⟨rfl, ⟨ov2, H2⟩, hb2⟩
  replace H2 := Lib.hid H2
  replace hb2 := Lib.hid ((hB1.out _).trans hb2)
  go_wp2_with fail
  refine (radd_any E P A KV ov2 pv (Bk.shut k st) _ B H2.out (hok.shut k) 5 hn ht []).mono ?_
  rintro e w3 ⟨a, kv, rfl, H3, hb3⟩
  replace H3 := Lib.hid H3
  replace hb3 := Lib.hid (hb2.out.trans hb3)
  go_wp2_with fail
  go_returns
  exact ⟨rfl, ⟨_, _, _, _, H3.out⟩, hb3.out⟩

set_option maxHeartbeats 1000000 in
set_option maxRecDepth 100000 in
theorem rleaf_break (hn : Nat) (ht : List UInt8) (fc : UInt8) (fn fi : Nat) (fs : List UInt8) (fo : Bool)
    (hhd : ∀ w, Calls Tryz.prog 74 #[.string (bs s)] w fun e w' => e = .returned (.tuple #[.int .i64 (hn : Int), .string (bs ht), .bool false]) ∧ w = w')
    (hbg : ∀ w, Calls Tryz.prog 75 #[.string (bs s)] w fun e w' => e = .returned (.tuple #[.agg #[.int .u8 (fc.toNat : Int), .int .i64 (fn : Int), .int .i64 (fi : Int), .string (bs fs)], .bool fo]) ∧ Below w.heap.size w w')
    (hem : ∀ w, Calls Tryz.prog 67 #[.string (bs s)] w fun e w' => e = .returned (.bool false) ∧ w = w')
    (hbr : ∀ w, Calls Tryz.prog 73 #[.string (bs s)] w fun e w' => e = .returned (.bool true) ∧ Below w.heap.size w w') :
    Calls Tryz.prog 50 #[ptr P, .string (bs s), .int .i64 (k : Int), .bool al, .bool be] w fun e w' =>
      e = .returned (.tuple #[]) ∧ (∃ A' KV' ov' pv', Hp w' B (parts E P A' KV' ov' pv' (Bk.add 6 0 [] [] 0 (Bk.shut k st)))) ∧ Below B w w' := by
  have hfew := hok.few
  have hBw : B ≤ w.heap.size := by have := par_cells h; omega
  replace h := Lib.hid h
  go_enter Tryz.func50, Tryz.ntmps50
  go_wp2_with fail
  refine (hhd _).mono ?_
  rintro e w1 ⟨rfl, rfl⟩
  go_wp2_with fail
  refine (hbg _).mono ?_
  rintro e w1 ⟨rfl, hb1⟩
  have hA := Lib.hid (fun o => h.out.ext (ext_trans hb1 (ext_alloc w1 o)))
  have hz1 := hb1.size
  have hB1 := Lib.hid (fun o => (ext_trans hb1 (ext_alloc w1 o)).mono hBw)
  replace hb1 := Lib.hid hb1
  go_wp2_with fail
  refine (hem _).mono ?_
  rintro e w2 ⟨rfl, rfl⟩
  go_wp2_with fail
  refine (hbr _).mono ?_
  rintro e w2 ⟨rfl, hbk⟩
  replace hA := Lib.hid ((hA.out _).ext hbk)
  replace hB1 := Lib.hid ((hB1.out _).trans (hbk.mono (by simp; omega)))
  go_wp2_with fail
  refine (rshut_any E P A KV ov pv st _ B hA.out k hk (by omega)).mono ?_
  rintro e w2b ⟨rfl, ⟨ov2, H2⟩, hb2⟩
  replace H2 := Lib.hid H2
  replace hb2 := Lib.hid (hB1.out.trans hb2)
  go_wp2_with fail
  refine (radd_any E P A KV ov2 pv (Bk.shut k st) _ B H2.out (hok.shut k) 6 0 [] []).mono ?_
  rintro e w3 ⟨a, kv, rfl, H3, hb3⟩
  replace H3 := Lib.hid H3
  replace hb3 := Lib.hid (hb2.out.trans hb3)
  go_wp2_with fail
  go_returns
  exact ⟨rfl, ⟨_, _, _, _, H3.out⟩, hb3.out⟩

set_option maxHeartbeats 1000000 in
set_option maxRecDepth 100000 in
theorem rleaf_para (hn : Nat) (ht : List UInt8) (fc : UInt8) (fn fi : Nat) (fs : List UInt8) (tt : List UInt8) (hpb : st.para = none ∨ be = true)
    (hhd : ∀ w, Calls Tryz.prog 74 #[.string (bs s)] w fun e w' => e = .returned (.tuple #[.int .i64 (hn : Int), .string (bs ht), .bool false]) ∧ w = w')
    (hbg : ∀ w, Calls Tryz.prog 75 #[.string (bs s)] w fun e w' => e = .returned (.tuple #[.agg #[.int .u8 (fc.toNat : Int), .int .i64 (fn : Int), .int .i64 (fi : Int), .string (bs fs)], .bool false]) ∧ Below w.heap.size w w')
    (hem : ∀ w, Calls Tryz.prog 67 #[.string (bs s)] w fun e w' => e = .returned (.bool false) ∧ w = w')
    (hbr : ∀ w, Calls Tryz.prog 73 #[.string (bs s)] w fun e w' => e = .returned (.bool false) ∧ Below w.heap.size w w')
    (htr : ∀ w, Calls Tryz.prog 76 #[.string (bs s)] w fun e w' => e = .returned (.string (bs tt)) ∧ w = w') :
    Calls Tryz.prog 50 #[ptr P, .string (bs s), .int .i64 (k : Int), .bool al, .bool be] w fun e w' =>
      e = .returned (.tuple #[]) ∧ (∃ A' KV' ov' pv', Hp w' B (parts E P A' KV' ov' pv' ({ Bk.add 4 0 tt [] 0 (Bk.shut k st) with para := some st.ns.length }))) ∧ Below B w w' := by
  have hpo : (st.para = none ∧ optPtr A st.para = .pointer none) ∨ (be = true ∧ ∃ i, optPtr A st.para = ptr (A i)) ∨ (be = true ∧ optPtr A st.para = .pointer none) := by
    rcases hpb with h1 | h1
    · exact .inl ⟨h1, by rw [h1]; rfl⟩
    · cases hp : st.para with
      | none => exact .inr (.inr ⟨h1, rfl⟩)
      | some i => exact .inr (.inl ⟨h1, i, rfl⟩)
  have hfew := hok.few
  have hBw : B ≤ w.heap.size := by have := par_cells h; omega
  replace h := Lib.hid h
  go_enter Tryz.func50, Tryz.ntmps50
  go_wp2_with fail
  refine (hhd _).mono ?_
  rintro e w1 ⟨rfl, rfl⟩
  go_wp2_with fail
  refine (hbg _).mono ?_
  rintro e w1 ⟨rfl, hb1⟩
  have hA := Lib.hid (fun o => h.out.ext (ext_trans hb1 (ext_alloc w1 o)))
  have hz1 := hb1.size
  have hB1 := Lib.hid (fun o => (ext_trans hb1 (ext_alloc w1 o)).mono hBw)
  replace hb1 := Lib.hid hb1
  go_wp2_with fail
  refine (hem _).mono ?_
  rintro e w2 ⟨rfl, rfl⟩
  go_wp2_with fail
  refine (hbr _).mono ?_
  rintro e w2 ⟨rfl, hbk⟩
  replace hA := ((hA.out _).ext hbk)
  replace hB1 := Lib.hid ((hB1.out _).trans (hbk.mono (by simp; omega)))
  obtain ⟨hP1, hP2, hfr2, _, _, hd2, _⟩ := par_facts hA
  replace hA := Lib.hid hA
  replace hfr2 := Lib.hid hfr2
  have hend : ∀ w3 a kv, Hp w3 B (parts E P (more A (Bk.shut k st).ns.length a) kv ov pv (Bk.add 4 0 tt [] 0 (Bk.shut k st))) → True := fun _ _ _ _ => trivial
  rcases hpo with ⟨_, hpo⟩ | ⟨rfl, i, hpo⟩ | ⟨rfl, hpo⟩
  all_goals
    rw [hpo] at hd2
    clear hpo hend
    go_wp2_with fail
    refine (rshut_any E P A KV ov pv st _ B hA.out k hk (by omega)).mono ?_
    rintro e w2b ⟨rfl, ⟨ov2, H2⟩, hb2⟩
    replace H2 := Lib.hid H2
    replace hb2 := Lib.hid (hB1.out.trans hb2)
    go_wp2_with fail
    refine (htr _).mono ?_
    rintro e w2c ⟨rfl, rfl⟩
    go_wp2_with fail
    refine (radd_any E P A KV ov2 pv (Bk.shut k st) _ B H2.out (hok.shut k) 4 0 tt []).mono ?_
    rintro e w3 ⟨a, kv, rfl, H3, hb3⟩
    obtain ⟨hP3, hP4, hfr3, _, _, hd3, _⟩ := par_facts H3
    have m1 := Lib.hid (set_para H3 (o := some st.ns.length) (v := ptr a) (by simp only [optPtr, Bk.shut, more_at]))
    replace H3 := Lib.hid H3
    replace hb3 := Lib.hid ((hb2.out.trans hb3).setCell (p := ⟨P, 2, none⟩) hP3 (ptr a))
    go_wp2_with fail
    go_returns
    exact ⟨rfl, ⟨_, _, _, _, m1.out⟩, hb3.out⟩

omit hk in
set_option maxHeartbeats 1000000 in
set_option maxRecDepth 100000 in
theorem rleaf_more (hn : Nat) (ht : List UInt8) (fc : UInt8) (fn fi : Nat) (fs : List UInt8) (tt : List UInt8) (i : Nat) (hpi : st.para = some i) (x : Bk.Nd) (hx : st.ns[i]? = some x) (hxl : x.text.length ≤ 1000000000000) (htl : tt.length ≤ 1000000000000)
    (hhd : ∀ w, Calls Tryz.prog 74 #[.string (bs s)] w fun e w' => e = .returned (.tuple #[.int .i64 (hn : Int), .string (bs ht), .bool false]) ∧ w = w')
    (hbg : ∀ w, Calls Tryz.prog 75 #[.string (bs s)] w fun e w' => e = .returned (.tuple #[.agg #[.int .u8 (fc.toNat : Int), .int .i64 (fn : Int), .int .i64 (fi : Int), .string (bs fs)], .bool false]) ∧ Below w.heap.size w w')
    (hem : ∀ w, Calls Tryz.prog 67 #[.string (bs s)] w fun e w' => e = .returned (.bool false) ∧ w = w')
    (hbr : ∀ w, Calls Tryz.prog 73 #[.string (bs s)] w fun e w' => e = .returned (.bool false) ∧ Below w.heap.size w w')
    (htr : ∀ w, Calls Tryz.prog 76 #[.string (bs s)] w fun e w' => e = .returned (.string (bs tt)) ∧ w = w') :
    Calls Tryz.prog 50 #[ptr P, .string (bs s), .int .i64 (k : Int), .bool al, .bool false] w fun e w' =>
      e = .returned (.tuple #[]) ∧ (∃ A' KV' ov' pv', Hp w' B (parts E P A' KV' ov' pv' ({ st with ns := Bk.setText st.ns i (x.text ++ 10 :: tt) }))) ∧ Below B w w' := by
  have hi : i < st.ns.length := hok.para i hpi
  obtain rfl : st.ns[i] = x := by rw [List.getElem?_eq_getElem hi] at hx; exact Option.some.inj hx
  have hfew := hok.few
  have hBw : B ≤ w.heap.size := by have := par_cells h; omega
  replace h := Lib.hid h
  go_enter Tryz.func50, Tryz.ntmps50
  go_wp2_with fail
  refine (hhd _).mono ?_
  rintro e w1 ⟨rfl, rfl⟩
  go_wp2_with fail
  refine (hbg _).mono ?_
  rintro e w1 ⟨rfl, hb1⟩
  have hA := Lib.hid (fun o => h.out.ext (ext_trans hb1 (ext_alloc w1 o)))
  have hz1 := hb1.size
  have hB1 := Lib.hid (fun o => (ext_trans hb1 (ext_alloc w1 o)).mono hBw)
  replace hb1 := Lib.hid hb1
  go_wp2_with fail
  refine (hem _).mono ?_
  rintro e w2 ⟨rfl, rfl⟩
  go_wp2_with fail
  refine (hbr _).mono ?_
  rintro e w2 ⟨rfl, hbk⟩
  replace hA := ((hA.out _).ext hbk)
  replace hB1 := Lib.hid ((hB1.out _).trans (hbk.mono (by simp; omega)))
  obtain ⟨hP1, hP2, _, _, _, hd2, _⟩ := par_facts hA
  obtain ⟨hq1, hq2, hq3, _, hd3, _⟩ := node_facts hA hi
  rw [hpi] at hd2
  simp only [optPtr] at hd2
  obtain ⟨q, hqq⟩ : ∃ q, A i = q := ⟨_, rfl⟩
  obtain ⟨X, hX⟩ : ∃ X, st.ns[i].text = X := ⟨_, rfl⟩
  rw [hqq] at hq1 hq2 hq3 hd2 hd3
  rw [hX] at hd3 hxl
  replace hA := Lib.hid hA
  replace hX := Lib.hid hX
  replace hqq := Lib.hid hqq
  have a1 : (⟨#[10]⟩ : ByteArray) ++ bs tt = bs (10 :: tt) := bs_append [10] tt
  have a2 : bs X ++ bs (10 :: tt) = bs (X ++ 10 :: tt) := bs_append X (10 :: tt)
  have n1 := bs_size tt
  have n2 : (bs (10 :: tt)).size = tt.length + 1 := bs_size (10 :: tt)
  have n3 := bs_size X
  have b1 : ¬ 9223372036854775807 < 1 + tt.length := by omega
  have b2 : ¬ 9223372036854775807 < X.length + (tt.length + 1) := by omega
  go_wp2_with fail
  refine wp_region_still_tail 15 (by kernel_rfl) (by kernel_rfl) ?_
  simp only [List.take_succ_cons, List.take_zero, List.drop_succ_cons, List.drop_zero]
  repeat still_step
  still_call ((htr _).mono (fun _ _ h => ⟨h.1, h.2.symm⟩))
  repeat still_step
  refine wpStill_nil ?_
  replace hA := Lib.hid (hA.out.drew)
  change wpList _ _ _ _ _ w2.drew
  replace hB1 := Lib.hid (hB1.out.trans (Below.refl B w2).drew)
  have hfr2 : ∀ j, w2.drew.frozen? ⟨q, j, none⟩ = false := hq3
  have hd4 : w2.drew.cell? ⟨q, 2, none⟩ = some (.string (bs X)) := hd3
  generalize w2.drew = w3 at hA hB1 hfr2 hd4 ⊢
  clear hd3 hq3 hq2 hd2
  go_wp2_with fail
  go_returns
  refine ⟨rfl, ⟨A, KV, ov, pv, ?_⟩, hB1.out.setCell hq1 _⟩
  rw [← hqq.out]
  have := set_text hA.out hi (X ++ 10 :: tt)
  rw [hX.out] at *
  exact this

end
end Go.Proofs.YtmbcddehacfpgaaGreatDoor

namespace Go.Proofs.YtmbcddehacfpgaaGreatDoor
open Go.RowKit
attribute [local go_sem] canOp readsAs readUpon

theorem placeEI : EI Tryz.prog 41 49 8 72 := EI.mk' (z := .agg #[.int .i64 0, .int .u8 0, .int .i64 0, .int .i64 0, .string ⟨#[]⟩, .int .i64 0, .int .i64 0, .bool false]) Tryz.underlying41 (by kernel_rfl) rfl (by omega)
theorem plCells_append (a b : List Bk.Pl) : plCells (a ++ b) = plCells a ++ plCells b := by
  induction a with
  | nil => rfl
  | cons x r ih => simp [plCells, ih]
/-- what is read beside a place that is laid -/
def PlS (P fb ln : Nat) (fc : UInt8) (fn fi : Nat) (fs : List UInt8) (u : World) : Prop :=
  u.cell? ⟨P, 8, none⟩ = some (.int .i64 (ln : Int)) ∧ u.cell? ⟨fb, 0, none⟩ = some (.int .u8 (fc.toNat : Int)) ∧ u.cell? ⟨fb, 1, none⟩ = some (.int .i64 (fn : Int)) ∧ u.cell? ⟨fb, 2, none⟩ = some (.int .i64 (fi : Int)) ∧ u.cell? ⟨fb, 3, none⟩ = some (.string (bs fs))
theorem PlS.grown {P fb ln : Nat} {fc : UInt8} {fn fi : Nat} {fs : List UInt8} {u u' : World} {row : Option Nat} (h : PlS P fb ln fc fn fi fs u) (hg : u.grownBy u' row) (h1 : some P ≠ row) (h2 : some fb ≠ row) : PlS P fb ln fc fn fi fs u' :=
  ⟨hg.cell h.1 h1, hg.cell h.2.1 h2, hg.cell h.2.2.1 h2, hg.cell h.2.2.2.1 h2, hg.cell h.2.2.2.2 h2⟩
theorem PlS.set9 {P fb ln : Nat} {fc : UInt8} {fn fi : Nat} {fs : List UInt8} {u : World} (h : PlS P fb ln fc fn fi fs u) (hne : P ≠ fb) (v : Value) : PlS P fb ln fc fn fi fs (u.setCell ⟨P, 9, none⟩ v) := by
  have hne' : ∀ j, (⟨P, 9, none⟩ : Addr) ≠ ⟨fb, j, none⟩ := fun j e => hne (congrArg Addr.block e)
  refine ⟨?_, ?_, ?_, ?_, ?_⟩
  · rw [World.cell?_setCell_other _ _ _ _ (by simp)]; exact h.1
  · rw [World.cell?_setCell_other _ _ _ _ (hne' _)]; exact h.2.1
  · rw [World.cell?_setCell_other _ _ _ _ (hne' _)]; exact h.2.2.1
  · rw [World.cell?_setCell_other _ _ _ _ (hne' _)]; exact h.2.2.2.1
  · rw [World.cell?_setCell_other _ _ _ _ (hne' _)]; exact h.2.2.2.2
/-- a place more -/
theorem placed_done {E : Nat → Option Part} {P : Nat} {A : Nat → Nat} {KV : Nat → Value} {ov pv : Value} {st : Bk.St} {w : World} {B : Nat} (h : Hp w B (parts E P A KV ov pv st)) (l : List Bk.Pl) {w3 : World} {v : Value} {n : Nat} {xs : List Value} (hn : n = l.length) (hxs : xs = plCells l)
    (hown : w3.ownsRow B 49 8 v n xs) (hg : w.grownBy w3 pv.ownBlock) (hat : At w.heap.size pv v) (hb3 : Below B w w3) :
    B ≤ P ∧ P < w3.heap.size ∧ w3.cell? ⟨P, 9, none⟩ = some pv ∧ (∀ j, w3.frozen? ⟨P, j, none⟩ = false) ∧
      Hp (w3.setCell ⟨P, 9, none⟩ v) B (parts E P A KV ov v { st with places := l }) ∧ Below B w (w3.setCell ⟨P, 9, none⟩ v) := by
  subst hn hxs
  have H1 := h.uput (k := .pls) (.row 49 8 v l.length (plCells l)) rfl hg hown hat
  obtain ⟨hq1, hq2, hqc⟩ := H1.base (k := .par) rfl
  have m3 := H1.ustore (k := .par) 9 v rfl
  refine ⟨hq1, hq2, cell_of hqc rfl, blk_free hqc, m3.same fun j => ?_, hb3.setCell hq1 _⟩
  cases j <;> rfl
section
variable (E : Nat → Option Part) (P : Nat) (A : Nat → Nat) (KV : Nat → Value) (ov pv : Value) (st : Bk.St) (w : World) (B : Nat) (h : Hp w B (parts E P A KV ov pv st)) (hok : Bk.Ok st) (k : Nat) (hk : k ≤ st.opn.length) (s : List UInt8) (al be : Bool)
include h hok hk

set_option maxHeartbeats 1000000 in
set_option maxRecDepth 100000 in
theorem rleaf_fence (fc : UInt8) (fn fi : Nat) (fs : List UInt8) (hpl : st.places.length ≤ 1000000000) (hlnn : st.line ≤ 1000000000) (PL : List Bk.Pl) (hPL : PL = if (st.opn.take k).isEmpty = true then st.places ++ [⟨st.line, ⟨fc, fn, fi, fs⟩, st.line + 1, 0, false⟩] else st.places) (hn : Nat) (ht : List UInt8)
    (hhd : ∀ w, Calls Tryz.prog 74 #[.string (bs s)] w fun e w' => e = .returned (.tuple #[.int .i64 (hn : Int), .string (bs ht), .bool false]) ∧ w = w')
    (hbg : ∀ w, Calls Tryz.prog 75 #[.string (bs s)] w fun e w' => e = .returned (.tuple #[.agg #[.int .u8 (fc.toNat : Int), .int .i64 (fn : Int), .int .i64 (fi : Int), .string (bs fs)], .bool true]) ∧ Below w.heap.size w w')
    (hem : ∀ w, Calls Tryz.prog 67 #[.string (bs s)] w fun e w' => e = .returned (.bool false) ∧ w = w')
    (hbr : ∀ w, Calls Tryz.prog 73 #[.string (bs s)] w fun e w' => e = .returned (.bool false) ∧ Below w.heap.size w w') :
    Calls Tryz.prog 50 #[ptr P, .string (bs s), .int .i64 (k : Int), .bool al, .bool be] w fun e w' =>
      e = .returned (.tuple #[]) ∧ (∃ A' KV' ov' pv', Hp w' B (parts E P A' KV' ov' pv' ({ Bk.add 7 0 [] fs 0 (Bk.shut k st) with fence := some st.ns.length, f := ⟨fc, fn, fi, fs⟩, places := PL }))) ∧ Below B w w' := by
  have hfew := hok.few
  have hBw : B ≤ w.heap.size := by have := par_cells h; omega
  replace h := Lib.hid h
  go_enter Tryz.func50, Tryz.ntmps50
  go_wp2_with fail
  refine (hhd _).mono ?_
  rintro e w1 ⟨rfl, rfl⟩
  go_wp2_with fail
  refine (hbg _).mono ?_
  rintro e w1 ⟨rfl, hb1⟩
  have hA := Lib.hid (ext_in (h.out.ext hb1) (ext_alloc w1 (.cells #[.int .u8 (fc.toNat : Int), .int .i64 (fn : Int), .int .i64 (fi : Int), .string (bs fs)] 47)) (a := .blk w1.heap.size #[.int .u8 (fc.toNat : Int), .int .i64 (fn : Int), .int .i64 (fi : Int), .string (bs fs)] 47)
    ⟨by have := hb1.size; omega, heap_alloc_new w1 _⟩ (fun g hg => by cases hg; exact Nat.le_refl _))
  have hz1 := hb1.size
  have hB1 := Lib.hid (fun o => (ext_trans hb1 (ext_alloc w1 o)).mono hBw)
  replace hb1 := Lib.hid hb1
  go_wp2_with fail
  refine (hem _).mono ?_
  rintro e w2 ⟨rfl, rfl⟩
  go_wp2_with fail
  refine (hbr _).mono ?_
  rintro e w2 ⟨rfl, hbk⟩
  replace hA := Lib.hid (hA.out.ext hbk)
  replace hB1 := Lib.hid ((hB1.out _).trans (hbk.mono (by simp; omega)))
  obtain ⟨EX, hEX⟩ : ∃ EX, shiftE (.blk w1.heap.size #[.int .u8 (fc.toNat : Int), .int .i64 (fn : Int), .int .i64 (fi : Int), .string (bs fs)] 47) E = EX := ⟨_, rfl⟩
  have hE0 : EX 0 = some (.blk w1.heap.size #[.int .u8 (fc.toNat : Int), .int .i64 (fn : Int), .int .i64 (fi : Int), .string (bs fs)] 47) := by rw [← hEX]; rfl
  rw [hEX] at hA
  obtain ⟨fb, hfb⟩ : ∃ fb, w1.heap.size = fb := ⟨_, rfl⟩
  rw [hfb] at hE0
  replace hfb := Lib.hid hfb
  replace hEX := Lib.hid hEX
  replace hE0 := Lib.hid hE0
  go_wp2_with fail
  refine (rshut_any EX P A KV ov pv st _ B hA.out k hk (by omega)).mono ?_
  rintro e w2b ⟨rfl, ⟨ov2, H2⟩, hb2⟩
  obtain ⟨_, hfl2, hf2⟩ := H2.base (k := .ext 0) hE0.out
  obtain ⟨f0, f1, f2, f3⟩ := four hf2
  replace H2 := Lib.hid H2
  replace hb2 := Lib.hid (hB1.out.trans hb2)
  replace hf2 := Lib.hid hf2
  have hres := hfb.out
  go_wp2_with fail
  clear hres
  refine (radd_any EX P A KV ov2 pv (Bk.shut k st) _ B H2.out (hok.shut k) 7 0 [] fs).mono ?_
  rintro e w3 ⟨a, kv, rfl, H3, hb3⟩
  obtain ⟨hP3, hP4, hfr3, _, hd1, _⟩ := par_facts H3
  obtain ⟨_, hfl3, hf3⟩ := H3.base (k := .ext 0) hE0.out
  obtain ⟨g0, g1, g2, g3⟩ := four hf3
  have m1 := set_fence H3 (o := some st.ns.length) (v := ptr a) (by simp only [optPtr, Bk.shut, more_at])
  have m2 := set_f m1 ⟨fc, fn, fi, fs⟩
  have hBF : Below B w3 (((((w3.setCell ⟨P, 3, none⟩ (ptr a)).setCell ⟨P, 4, none⟩ (.int .u8 (fc.toNat : Int))).setCell ⟨P, 5, none⟩ (.int .i64 (fn : Int))).setCell ⟨P, 6, none⟩ (.int .i64 (fi : Int))).setCell ⟨P, 7, none⟩ (.string (bs fs))) :=
    (((((Below.refl B w3).setCell (p := ⟨P, 3, none⟩) hP3 _).setCell (p := ⟨P, 4, none⟩) hP3 _).setCell (p := ⟨P, 5, none⟩) hP3 _).setCell (p := ⟨P, 6, none⟩) hP3 _).setCell (p := ⟨P, 7, none⟩) hP3 _
  have hb5 := Lib.hid ((hb2.out.trans hb3).trans hBF)
  have hne : P ≠ fb := fun e => by have := H3.apart .par (.ext 0) _ _ P rfl hE0.out rfl (by rw [e]; rfl); cases this
  have hne2 : fb ≠ P := fun e => hne e.symm
  have ho5 := m2.own (k := .opn) rfl
  obtain ⟨Ad5, c5, hov5, hlc5⟩ := own_shape ho5
  rw [hov5] at hd1
  obtain ⟨bx, hbx⟩ : ∃ bx, st.opn.take k = bx := ⟨_, rfl⟩
  rw [hbx] at hPL
  have hol : (Bk.add 7 0 [] fs 0 (Bk.shut k st)).opn.length = bx.length := by rw [← hbx]; rfl
  rw [hol] at hd1
  replace hbx := Lib.hid hbx
  replace H3 := Lib.hid H3
  replace m1 := Lib.hid m1
  replace m2 := Lib.hid m2
  replace hf3 := Lib.hid hf3
  replace hov5 := Lib.hid hov5
  replace ho5 := Lib.hid ho5
  clear hBF hol
  cases bx with
  | cons bb rr =>
    rw [show (bb :: rr).isEmpty = false from rfl, if_neg (by simp)] at hPL
    subst hPL
    have hl0 : ((bb :: rr).length : Int) ≠ 0 := by simp; omega
    have hl1 : (((bb :: rr).length : Int) == 0) = false := beq_eq_false_iff_ne.2 hl0
    obtain ⟨nb, hnb⟩ : ∃ nb, (bb :: rr).length = nb := ⟨_, rfl⟩
    rw [hnb] at hd1 hl1
    clear hl0 hnb
    go_wp2_with fail
    go_returns
    exact ⟨rfl, ⟨_, _, _, _, ext_out (by rw [hEX.out]; exact m2.out)⟩, hb5.out⟩
  | nil =>
    rw [show ([] : List Bk.Box).isEmpty = true from rfl, if_pos rfl] at hPL
    replace hPL := Lib.hid hPL
    go_wp2_with fail
    obtain ⟨w4, hw4⟩ : ∃ w4, (((((w3.setCell ⟨P, 3, none⟩ (ptr a)).setCell ⟨P, 4, none⟩ (.int .u8 (fc.toNat : Int))).setCell ⟨P, 5, none⟩ (.int .i64 (fn : Int))).setCell ⟨P, 6, none⟩ (.int .i64 (fi : Int))).setCell ⟨P, 7, none⟩ (.string (bs fs))) = w4 := ⟨_, rfl⟩
    rw [hw4] at m2 hb5 ⊢
    clear f0 f1 f2 f3 g0 g1 g2 g3 hfr3 hd1
    obtain ⟨_, hP6, _, _, _, _, _, _, _, _, _, hd8, hd9⟩ := par_facts m2.out
    obtain ⟨_, hfl6, hf6⟩ := m2.out.base (k := .ext 0) hE0.out
    obtain ⟨g0, g1, g2, g3⟩ := four hf6
    simp only [Bk.add, Bk.shut] at hd8 hd9
    replace hf6 := Lib.hid hf6
    have hdr := m2.out.drew
    have hnp : some P ≠ pv.ownBlock := fun e => by have := hdr.apart .par .pls _ _ P rfl rfl rfl e.symm; cases this
    have hnf : some fb ≠ pv.ownBlock := fun e => by have := hdr.apart (.ext 0) .pls _ _ fb hE0.out rfl rfl e.symm; cases this
    have ho9 := hdr.own (k := .pls) rfl
    have hdone := fun w7 v => @placed_done _ P _ _ ov2 pv _ w4.drew B hdr PL w7 v (st.places.length + 1) (plCells st.places ++ [.int .i64 (st.line : Int), .int .u8 (fc.toNat : Int), .int .i64 (fn : Int), .int .i64 (fi : Int), .string (bs fs), .int .i64 ((st.line + 1 : Nat) : Int), .int .i64 0, .bool false]) (by rw [hPL.out]; simp) (by rw [hPL.out, plCells_append]; rfl)
    simp only [Bk.add, Bk.shut] at ho9
    have hb6 := Lib.hid (hb5.out.trans (Below.refl B w4).drew)
    have hBP : B ≤ P := hP3
    have hBw4 : B ≤ w4.drew.heap.size := by have : w4.drew.heap.size = w4.heap.size := rfl; omega
    replace hdone := Lib.hid hdone
    replace ho9 := Lib.hid ho9
    replace hdr := Lib.hid hdr
    have hS0 : PlS P fb st.line fc fn fi fs w4.drew := ⟨hd8, g0, g1, g2, g3⟩
    have hwr : IntKind.i64.wrap ((st.line : Int) + 1) = (st.line : Int) + 1 := by unfold IntKind.wrap; simp [IntKind.bits, IntKind.signed]; omega
    refine wp_region_tree (.rd 0 (.rd 1 (.rd 2 (.rd 3 (.rd 5 (.rd 6 (.rd 7 (.rd 8 (.rd 9 (.rd 10 (.rd 11 (.rd 12 (.rd 13 (.rd 14 (.rd 15 (.fk 4 (.mk 16 (.mk 17 (.rd 18 (.rd 19 (.mk 20 .fin))))) 16 (.mk 4 (.mk 17 (.rd 18 (.rd 19 (.mk 20 .fin))))))))))))))))))))) (PlS P fb st.line fc fn fi fs) hS0 (by kernel_rfl) (by kernel_rfl) (by kernel_rfl) (fun _ _ d _ _ h => by cases d <;> exact h) ?_
    repeat (first | refine wpT_move rfl ?_ | (refine wpT_rd rfl ?_; intro K hK; go_simp; refine hK _ _ _ ?_; clear hK K))
    refine wpT_read (.int .i64 (st.line : Int)) rfl rfl hS0 (fun u hu => by obtain ⟨k0, k1, k2, k3, k4⟩ := hu; go_simp) ?_
    refine wpT_read (.agg #[.int .u8 (fc.toNat : Int), .int .i64 (fn : Int), .int .i64 (fi : Int), .string (bs fs)]) rfl rfl hS0 (fun u hu => by obtain ⟨k0, k1, k2, k3, k4⟩ := hu; go_simp) ?_
    repeat (first | refine wpT_move rfl ?_ | (refine wpT_rd rfl ?_; intro K hK; go_simp; refine hK _ _ _ ?_; clear hK K))
    refine wpT_read (.int .i64 (st.line : Int)) rfl rfl hS0 (fun u hu => by obtain ⟨k0, k1, k2, k3, k4⟩ := hu; go_simp) ?_
    repeat (first | refine wpT_move rfl ?_ | (refine wpT_rd rfl ?_; intro K hK; go_simp; refine hK _ _ _ ?_; clear hK K))
    refine wpT_fk ?wa ?wb
    case' wa =>
      refine wpT_mk rfl ?_
      intro K hK
      go_simp
      refine can_same hS0 (hK _ _ _ ?_)
      clear hK K
      refine wpT_mk rfl ?_
      intro K hK
      go_simp
      refine can_same (hS0.grown (World.grownBy_alloc w4.drew _ none) (by simp) (by simp)) (hK _ _ _ ?_)
      clear hK K
    case' wb =>
      refine wpT_mk rfl ?_
      intro K hK
      go_simp
      refine can_same (hS0.grown (World.grownBy_alloc w4.drew _ none) (by simp) (by simp)) (hK _ _ _ ?_)
      clear hK K
      refine wpT_mk rfl ?_
      intro K hK
      go_simp
      refine can_same (hS0.grown (World.grownBy_alloc w4.drew _ none) (by simp) (by simp)) (hK _ _ _ ?_)
      clear hK K
    all_goals
      refine wpT_mk rfl ?_
      intro K hK
      unfold canOp
      rw [if_pos (by rfl), if_neg (by simp)]
      refine wp_app_row_at (.tmp 89) (.tmp 101) rfl placeEI rfl (ho9.out.alloc _) rfl (Row.freshN _ _ _ rfl rfl) (by intro u hu; simp at hu; rcases hu with rfl | rfl | rfl | rfl | rfl | rfl | rfl | rfl <;> rfl) (by omega) (by omega) (by simp; omega) ?_
      intro pv' w7 hown7 hg7 hb7 hat7
      obtain ⟨Ad7, c7, rfl, hlc7⟩ := own_shape hown7
      have hg8 := grown_new (show (w4.drew.alloc (.cells #[.int .i64 (st.line : Int), .int .u8 (fc.toNat : Int), .int .i64 (fn : Int), .int .i64 (fi : Int), .string (bs fs), .int .i64 ((st.line : Int) + 1), .int .i64 0, .bool false] 49)).grownBy w7 pv.ownBlock from hg7.out)
      obtain ⟨y1, y2, y3, y4, H7, hb8⟩ := hdone.out w7 (.slice Ad7 (st.places.length + 1) c7) hown7 hg8 (fun g hg => (hat7.out g hg).imp id (fun h => by simp at h; show w4.heap.size ≤ g; omega)) (((Below.refl B _).alloc hBw4 _).trans hb7)
      have hS7 := hS0.grown hg8 hnp hnf
      replace H7 := Lib.hid H7
      replace hb8 := Lib.hid hb8
      replace hg8 := Lib.hid hg8
      refine can_same hS7 (hK _ _ _ ?_)
      clear hK K
      repeat (first | refine wpT_move rfl ?_ | (refine wpT_rd rfl ?_; intro K hK; go_simp; refine hK _ _ _ ?_; clear hK K))
      refine wpT_mk rfl ?_
      intro K hK
      go_simp
      refine can_same (hS7.set9 hne _) (hK _ _ _ ?_)
      clear hK K
      refine wpT_fin ?_
      go_wp2_with fail
      go_returns
      exact ⟨rfl, ⟨_, _, _, _, ext_out (by rw [hEX.out]; exact H7.out)⟩, hb6.out.trans hb8.out⟩

end

/-- how much a text may grow -/
structure Bk.Fits (st : Bk.St) : Prop where
  ok : Bk.Ok st
  texts : ∀ x ∈ st.ns, x.text.length ≤ 500000000000
  pls : st.places.length ≤ 500000000
  ln : st.line ≤ 500000000
  nodes : st.ns.length ≤ 500000000

theorem rleaf_any (E : Nat → Option Part) (P : Nat) (A : Nat → Nat) (KV : Nat → Value) (ov pv : Value) (st : Bk.St) (w : World) (B : Nat) (h : Hp w B (parts E P A KV ov pv st)) (hfit : Bk.Fits st) (k : Nat) (hk : k ≤ st.opn.length) (s : List UInt8) (hs : s.length ≤ 100000000) (al be : Bool) :
    Calls Tryz.prog 50 #[ptr P, .string (bs s), .int .i64 (k : Int), .bool al, .bool be] w fun e w' =>
      e = .returned (.tuple #[]) ∧ (∃ A' KV' ov' pv', Hp w' B (parts E P A' KV' ov' pv' (Bk.leaf s k be st))) ∧ Below B w w' := by
  have hok := hfit.ok
  have hhd := fun w => rhead_any s w (by omega)
  have hbg := fun w => rbegins_any s w (by omega)
  have hem := fun w => rempty_any s w (by omega)
  have hbr := fun w => rbrk_any s w (by omega)
  have htr := fun w => rtrim_any s w (by omega)
  have htl := Fn.trim_len s
  have hemE : decide ((Cl.lead Cl.inf s 0).2 = s.length) = Fn.emp s := rfl
  rw [hemE] at hem
  have hl : Bk.leaf s k be st = if Fn.emp s = true then Bk.shut k st
    else match Lf.heading s with
    | some (n, t) => Bk.add 5 n t [] 0 (Bk.shut k st)
    | none =>
      if Lf.brk s = true then Bk.add 6 0 [] [] 0 (Bk.shut k st)
      else match Fn.begins s with
        | some f =>
          { Bk.add 7 0 [] f.info 0 (Bk.shut k st) with fence := some st.ns.length, f := f, places := if (st.opn.take k).isEmpty = true then st.places ++ [⟨st.line, f, st.line + 1, 0, false⟩] else st.places }
        | none => match st.para, be with
          | some p, false => { st with ns := Bk.setText st.ns p (((st.ns[p]?.map (·.text)).getD []) ++ 10 :: Fn.trim s) }
          | _, _ => { Bk.add 4 0 (Fn.trim s) [] 0 (Bk.shut k st) with para := some st.ns.length } := by unfold Bk.leaf; rfl
  rw [hl]
  clear hl hemE
  obtain ⟨hn, ht, ho, hhf⟩ := bk_headv_form (Lf.heading s)
  obtain ⟨fc, fn, fi, fs, fo, hff⟩ := bk_begv_form (Fn.begins s)
  cases hE : Fn.emp s with
  | true =>
    rw [hE] at hem
    rw [if_pos rfl]
    rw [hhf] at hhd
    rw [hff] at hbg
    exact rleaf_empty E P A KV ov pv st w B h hok k hk s al be hn ht ho fc fn fi fs fo hhd hbg hem
  | false =>
    rw [hE] at hem
    rw [if_neg (by simp)]
    cases hH : Lf.heading s with
    | some p =>
      obtain ⟨n, t⟩ := p
      rw [hH] at hhd
      rw [hff] at hbg
      exact rleaf_heading E P A KV ov pv st w B h hok k hk s al be n t fc fn fi fs fo hhd hbg hem
    | none =>
      rw [hH] at hhd
      simp only
      cases hB : Lf.brk s with
      | true =>
        rw [hB] at hbr
        rw [hff] at hbg
        rw [if_pos rfl]
        exact rleaf_break E P A KV ov pv st w B h hok k hk s al be 0 [] fc fn fi fs fo hhd hbg hem hbr
      | false =>
        rw [hB] at hbr
        rw [if_neg (by simp)]
        cases hF : Fn.begins s with
        | some f =>
          rw [hF] at hbg
          obtain ⟨c, n, i, t⟩ := f
          exact rleaf_fence E P A KV ov pv st w B h hok k hk s al be c n i t (by have := hfit.pls; omega) (by have := hfit.ln; omega) _ rfl 0 [] hhd hbg hem hbr
        | none =>
          rw [hF] at hbg
          simp only
          by_cases hp : st.para = none ∨ be = true
          · have hr := rleaf_para E P A KV ov pv st w B h hok k hk s al be 0 [] 0 0 0 [] (Fn.trim s) hp hhd hbg hem hbr htr
            rcases hp with hp | hp
            · rw [hp]; exact hr
            · subst hp
              cases hq : st.para with
              | none => exact hr
              | some i => exact hr
          · obtain ⟨i, hi⟩ : ∃ i, st.para = some i := by
              cases hq : st.para with
              | none => exact absurd (.inl hq) hp
              | some i => exact ⟨i, rfl⟩
            have hbe : be = false := by
              cases be with
              | true => exact absurd (.inr rfl) hp
              | false => rfl
            subst hbe
            have hil := hok.para i hi
            have hx := List.getElem?_eq_getElem hil
            rw [hi]
            simp only [hx, Option.map_some, Option.getD_some]
            have htx := hfit.texts _ (List.getElem_mem hil)
            refine (rleaf_more E P A KV ov pv st w B h hok k s al 0 [] 0 0 0 [] (Fn.trim s) i hi _ hx (by omega) (by omega) hhd hbg hem hbr htr).mono ?_
            rintro e w9 ⟨h1, ⟨A9, K9, o9, p9, H⟩, h3⟩
            refine ⟨h1, ⟨A9, K9, o9, p9, H.same fun k => ?_⟩, h3⟩
            cases k with
            | par => simp only [parts, parCells, hi]
            | _ => rfl
end Go.Proofs.YtmbcddehacfpgaaGreatDoor

namespace Go.Proofs.YtmbcddehacfpgaaGreatDoor
open Go.RowKit
attribute [local go_sem] canOp readsAs readUpon

theorem optPtr_some (A : Nat → Nat) {o : Option Nat} {i : Nat} (h : o = some i) : optPtr A o = ptr (A i) := by subst h; rfl

theorem plCells_len (l : List Bk.Pl) : (plCells l).length = l.length * 8 := by
  induction l with
  | nil => rfl
  | cons x r ih => simp only [plCells, List.length_cons, ih]; omega
theorem closeLast_snoc (n : Nat) (c : Bool) (r : List Bk.Pl) (p : Bk.Pl) : Bk.closeLast n c (r ++ [p]) = r ++ [{ p with last := n, closed := c }] := by
  unfold Bk.closeLast; rw [List.getLast?_concat, List.dropLast_concat]
theorem plCells_close (n : Nat) (c : Bool) (r : List Bk.Pl) (p : Bk.Pl) : plCells (Bk.closeLast n c (r ++ [p])) = ((plCells (r ++ [p])).set (r.length * 8 + 6) (.int .i64 (n : Int))).set (r.length * 8 + 7) (.bool c) := by
  have hl := plCells_len r
  rw [closeLast_snoc, plCells_append, plCells_append, List.set_append_right _ _ (by omega), List.set_append_right _ _ (by omega), hl,
    show r.length * 8 + 6 - r.length * 8 = 6 from by omega, show r.length * 8 + 7 - r.length * 8 = 7 from by omega]
  rfl
/-- the last place ends here -/
theorem closed_done {E : Nat → Option Part} {P : Nat} {A : Nat → Nat} {KV : Nat → Value} {ov : Value} {st : Bk.St} {w : World} {B g c : Nat} {r : List Bk.Pl} {p : Bk.Pl} (hr : st.places = r ++ [p])
    (h : Hp w B (parts E P A KV ov (.slice (some ⟨g, 0, none⟩) (r.length + 1) c) st)) (ln : Nat) (cl : Bool) :
    Hp ((w.setCell ⟨g, r.length * 8 + 6, none⟩ (.int .i64 (ln : Int))).setCell ⟨g, r.length * 8 + 7, none⟩ (.bool cl)) B (parts E P A KV ov (.slice (some ⟨g, 0, none⟩) (r.length + 1) c) { st with places := Bk.closeLast ln cl st.places }) := by
  have hn : st.places.length = r.length + 1 := by rw [hr]; simp
  have h0 := h.own (k := .pls) rfl
  rw [hn] at h0
  have h1 := (World.ownsRow.stored h0 (r.length * 8 + 6) (.int .i64 (ln : Int))).1
  have h2 := (World.ownsRow.stored h1 (r.length * 8 + 7) (.bool cl)).1
  have m1 := h.uput (k := .pls) (.row 49 8 (.slice (some ⟨g, 0, none⟩) (r.length + 1) c) (r.length + 1) _) rfl (grown_set w ⟨g, r.length * 8 + 6, none⟩ (.int .i64 (ln : Int))) h1 (fun _ h => .inl h)
  have m2 := m1.uput (k := .pls) (.row 49 8 (.slice (some ⟨g, 0, none⟩) (r.length + 1) c) (r.length + 1) _) rfl (grown_set _ ⟨g, r.length * 8 + 7, none⟩ (.bool cl)) h2 (fun _ h => .inl h)
  refine m2.same fun k => ?_
  cases k with
  | pls =>
    simp only [parts]
    rw [hr, plCells_close, closeLast_snoc]
    simp [upd]
  | _ => rfl

section
variable (E : Nat → Option Part) (P : Nat) (A : Nat → Nat) (KV : Nat → Value) (ov pv : Value) (st : Bk.St) (w : World) (B : Nat) (h : Hp w B (parts E P A KV ov pv st)) (hfit : Bk.Fits st)
  (s : List UInt8) (T : List UInt8) (hT : T.length ≤ 100000000) (i : Nat) (hfi : st.fence = some i)
  (htk : ∀ w, Hp w B (parts E P A KV ov pv st) → Calls Tryz.prog 42 #[ptr P, .string (bs s)] w fun e w' => e = .returned (.tuple #[.int .i64 (st.opn.length : Int), .string (bs T)]) ∧ Below w.heap.size w w')
include h hfit hT hfi htk

set_option maxHeartbeats 2000000 in
set_option maxRecDepth 100000 in
theorem rtext_line (x : Bk.Nd) (hx : st.ns[i]? = some x)
    (hen : ∀ w, Calls Tryz.prog 43 #[.agg #[.int .u8 (st.f.c.toNat : Int), .int .i64 (st.f.n : Int), .int .i64 (st.f.ind : Int), .string (bs st.f.info)], .string (bs T)] w fun e w' => e = .returned (.bool false) ∧ Below w.heap.size w w') :
    Calls Tryz.prog 28 #[ptr P, .string (bs s)] w fun e w' =>
      e = .returned (.tuple #[]) ∧ (∃ A' KV' ov' pv', Hp w' B (parts E P A' KV' ov' pv' { st with ns := Bk.setText st.ns i (x.text ++ Cl.strip st.f.ind T ++ [10]) })) ∧ Below B w w' := by
  have hok := hfit.ok
  have hi : i < st.ns.length := hok.fence i hfi
  obtain rfl : st.ns[i] = x := by rw [List.getElem?_eq_getElem hi] at hx; exact Option.some.inj hx
  have hBw : B ≤ w.heap.size := by have := par_cells h; omega
  have hxl := hfit.texts _ (List.getElem_mem hi)
  have hst := fun w => rstrip_any T (st.f.ind : Int) w (by omega)
  have hsl := Cl.strip_len (st.f.ind : Int) T
  obtain ⟨S, hS⟩ : ∃ S, Cl.strip (st.f.ind : Int) T = S := ⟨_, rfl⟩
  rw [hS] at hst hsl
  have hfew := hok.few
  replace hS := Lib.hid hS
  go_enter Tryz.func28, Tryz.ntmps28
  go_wp2_with fail
  refine (htk _ h).mono ?_
  rintro e w1 ⟨rfl, hb1⟩
  have hA := h.ext hb1
  have hB1 := hb1.mono hBw
  have ho := hA.own (k := .opn) rfl
  obtain ⟨Ad, cc, hov, hlc⟩ := own_shape ho
  obtain ⟨hP1, hP2, hPf, _, hd1, _, hd3, hd4, hd5, hd6, hd7, _⟩ := par_facts hA
  rw [hov] at hd1
  rw [optPtr_some A hfi] at hd3
  obtain ⟨nb, hnb⟩ : ∃ nb, st.opn.length = nb := ⟨_, rfl⟩
  rw [hnb] at hd1 hfew ⊢
  obtain ⟨q, hqq⟩ : ∃ q, A i = q := ⟨_, rfl⟩
  rw [hqq] at hd3
  clear ho hlc
  replace h := Lib.hid h
  replace hb1 := Lib.hid hb1
  replace hov := Lib.hid hov
  replace hnb := Lib.hid hnb
  replace hqq := Lib.hid hqq
  have hA' := Lib.hid hA
  clear hA
  go_wp2_with fail
  refine (hen _).mono ?_
  rintro e w2 ⟨rfl, hb2⟩
  have hA := hA'.out.ext hb2
  have hB2 := hB1.trans (hb2.mono (by omega))
  obtain ⟨_, hQ2, _, _, _, _, he3, _, _, he6, _⟩ := par_facts hA
  obtain ⟨hq1, hq2, hq3, _, hdt, _⟩ := node_facts hA hi
  rw [optPtr_some A hfi, hqq.out] at he3
  rw [hqq.out] at hq1 hq2 hq3 hdt
  obtain ⟨X, hX⟩ : ∃ X, st.ns[i].text = X := ⟨_, rfl⟩
  rw [hX] at hdt hxl
  have a1 : bs S ++ (⟨#[10]⟩ : ByteArray) = bs (S ++ [10]) := bs_append S [10]
  have a2 : bs X ++ bs (S ++ [10]) = bs (X ++ (S ++ [10])) := bs_append X (S ++ [10])
  have n1 := bs_size S
  have n2 : (bs (S ++ [10])).size = S.length + 1 := by rw [bs_size]; simp
  have n3 := bs_size X
  have b1 : ¬ 9223372036854775807 < S.length + 1 := by omega
  have b2 : ¬ 9223372036854775807 < X.length + (S.length + 1) := by omega
  replace hX := Lib.hid hX
  replace hA := Lib.hid hA
  replace hB2 := Lib.hid hB2
  replace hb2 := Lib.hid hb2
  clear hd1 hd3 hd4 hd5 hd6 hd7 hA' hB1 hPf hP2 hb1
  go_wp2_with fail
  refine wp_region_still_tail 20 (by kernel_rfl) (by kernel_rfl) ?_
  simp only [List.take_succ_cons, List.take_zero, List.drop_succ_cons, List.drop_zero]
  repeat still_step
  still_call ((hst _).mono (fun _ _ h => ⟨h.1, h.2.symm⟩))
  repeat still_step
  refine wpStill_nil ?_
  replace hA := Lib.hid (hA.out.drew)
  change wpList _ _ _ _ _ w2.drew
  replace hB2 := Lib.hid (hB2.out.trans (Below.refl B w2).drew)
  have hfr2 : ∀ j, w2.drew.frozen? ⟨q, j, none⟩ = false := hq3
  have hd4 : w2.drew.cell? ⟨q, 2, none⟩ = some (.string (bs X)) := hdt
  generalize w2.drew = w3 at hA hB2 hfr2 hd4 ⊢
  clear hdt hq3 hq2 he3 he6 hQ2
  go_wp2_with fail
  go_returns
  refine ⟨rfl, ⟨A, KV, ov, pv, ?_⟩, hB2.out.setCell hq1 _⟩
  rw [← hqq.out]
  have := set_text hA.out hi (X ++ (S ++ [10]))
  rw [hX.out, hS.out, List.append_assoc]
  exact this

omit hT in
set_option maxHeartbeats 2000000 in
set_option maxRecDepth 100000 in
theorem rtext_ends (PL : List Bk.Pl) (hPL : PL = if st.opn.isEmpty = true then Bk.closeLast st.line true st.places else st.places) (hpl : st.opn = [] → ∃ r p, st.places = r ++ [p])
    (hen : ∀ w, Calls Tryz.prog 43 #[.agg #[.int .u8 (st.f.c.toNat : Int), .int .i64 (st.f.n : Int), .int .i64 (st.f.ind : Int), .string (bs st.f.info)], .string (bs T)] w fun e w' => e = .returned (.bool true) ∧ Below w.heap.size w w') :
    Calls Tryz.prog 28 #[ptr P, .string (bs s)] w fun e w' =>
      e = .returned (.tuple #[]) ∧ (∃ A' KV' ov' pv', Hp w' B (parts E P A' KV' ov' pv' { st with fence := none, places := PL })) ∧ Below B w w' := by
  have hok := hfit.ok
  have hi : i < st.ns.length := hok.fence i hfi
  have hBw : B ≤ w.heap.size := by have := par_cells h; omega
  have hfew := hok.few
  have hpls := hfit.pls
  go_enter Tryz.func28, Tryz.ntmps28
  go_wp2_with fail
  refine (htk _ h).mono ?_
  rintro e w1 ⟨rfl, hb1⟩
  have hA := h.ext hb1
  have hB1 := hb1.mono hBw
  have ho := hA.own (k := .opn) rfl
  obtain ⟨Ad, cc, hov, hlc⟩ := own_shape ho
  obtain ⟨hP1, hP2, hPf, _, hd1, _, hd3, hd4, hd5, hd6, hd7, _⟩ := par_facts hA
  rw [hov] at hd1
  rw [optPtr_some A hfi] at hd3
  obtain ⟨nb, hnb⟩ : ∃ nb, st.opn.length = nb := ⟨_, rfl⟩
  rw [hnb] at hd1 hfew ⊢
  obtain ⟨q, hqq⟩ : ∃ q, A i = q := ⟨_, rfl⟩
  rw [hqq] at hd3
  clear ho hlc
  replace h := Lib.hid h
  replace hb1 := Lib.hid hb1
  replace hov := Lib.hid hov
  replace hnb := Lib.hid hnb
  replace hqq := Lib.hid hqq
  have hA' := Lib.hid hA
  clear hA
  go_wp2_with fail
  refine (hen _).mono ?_
  rintro e w2 ⟨rfl, hb2⟩
  have hA := hA'.out.ext hb2
  have hB2 := hB1.trans (hb2.mono (by omega))
  obtain ⟨_, hQ2, hfr, _, he1, _, he3, _, _, _, _, he8, he9⟩ := par_facts hA
  rw [optPtr_some A hfi, hqq.out] at he3
  rw [hov.out, hnb.out] at he1
  replace hB2 := Lib.hid hB2
  replace hb2 := Lib.hid hb2
  clear hd1 hd3 hd4 hd5 hd6 hd7 hA' hB1 hPf hP2 hb1
  by_cases h0 : nb = 0
  · subst h0
    have hem : st.opn = [] := List.eq_nil_of_length_eq_zero hnb.out
    obtain ⟨r, p, hr⟩ := hpl hem
    rw [hem, show ([] : List Bk.Box).isEmpty = true from rfl, if_pos rfl] at hPL
    replace hPL := Lib.hid hPL
    replace hem := Lib.hid hem
    have hop := hA.own (k := .pls) rfl
    obtain ⟨Ap, cp, hpv, hlp⟩ := own_shape hop
    have hn : st.places.length = r.length + 1 := by rw [hr]; simp
    rw [hn] at hpv hop hpls
    subst hpv
    obtain ⟨g, rfl⟩ : ∃ g, Ap = some ⟨g, 0, none⟩ := by
      rcases hop.2 with ⟨hv, hn⟩ | ⟨g, cap, cur, hv, _⟩
      · omega
      · cases hv; exact ⟨g, rfl⟩
    have hfrg := World.ownsRow.frozenAt hop
    have hgB := (World.ownsRow.lt hop g rfl).1
    have hpl8 := plCells_len st.places
    rw [hn] at hpl8
    have hcell := fun (j : Nat) (hj : j < (plCells st.places).length) => own_cell hop (List.getElem?_eq_getElem hj)
    obtain ⟨v6, hc6⟩ : ∃ v, w2.cell? ⟨g, r.length * 8 + 6, none⟩ = some v := ⟨_, hcell _ (by omega)⟩
    obtain ⟨v7, hc7⟩ : ∃ v, w2.cell? ⟨g, r.length * 8 + 7, none⟩ = some v := ⟨_, hcell _ (by omega)⟩
    obtain ⟨m, hm⟩ : ∃ m, r.length = m := ⟨_, rfl⟩
    have hcd := closed_done hr (ln := st.line) (cl := true) hA.drew
    rw [hm] at hc6 hc7 he9 hpls hcd
    have hcd2 := fun (o : Option Nat) (v : Value) (hv : v = optPtr A o) => set_fence hcd hv
    replace hcd := Lib.hid hcd
    replace hcd2 := Lib.hid hcd2
    replace hA := Lib.hid hA
    replace hop := Lib.hid hop
    clear hn hm hr hpl8 hcell hlp
    go_wp2_with fail
    have hB3 := Lib.hid (hB2.out.trans (Below.refl B w2).drew)
    have hPg : P ≠ g := fun e => by have := hA.out.apart .par .pls _ _ P rfl rfl rfl (by rw [e]; rfl); cases this
    have hS0 : w2.drew.cell? ⟨P, 8, none⟩ = some (.int .i64 (st.line : Int)) ∧ w2.drew.cell? ⟨P, 9, none⟩ = some (.slice (some ⟨g, 0, none⟩) (m + 1) cp) := ⟨he8, he9⟩
    have hS1 : ∀ (u : World) (j : Nat) (v : Value), (u.cell? ⟨P, 8, none⟩ = some (.int .i64 (st.line : Int)) ∧ u.cell? ⟨P, 9, none⟩ = some (.slice (some ⟨g, 0, none⟩) (m + 1) cp)) → ((u.setCell ⟨g, j, none⟩ v).cell? ⟨P, 8, none⟩ = some (.int .i64 (st.line : Int)) ∧ (u.setCell ⟨g, j, none⟩ v).cell? ⟨P, 9, none⟩ = some (.slice (some ⟨g, 0, none⟩) (m + 1) cp)) :=
      fun u j v h => ⟨by rw [World.cell?_setCell_other _ _ _ _ (fun e => hPg (congrArg Addr.block e).symm)]; exact h.1, by rw [World.cell?_setCell_other _ _ _ _ (fun e => hPg (congrArg Addr.block e).symm)]; exact h.2⟩
    have hwm : IntKind.i64.wrap (m : Int) = (m : Int) := by unfold IntKind.wrap; simp [IntKind.bits, IntKind.signed]; omega
    have hm0 : (0 : Int) ≤ (m : Int) := by omega
    have hm1 : (m : Int) < (m : Int) + 1 := by omega
    obtain ⟨_, hP4, hfr4, _, _, _, hf3, _⟩ := par_facts hcd.out
    have hc6' : w2.drew.cell? ⟨g, m * 8 + 6, none⟩ = some v6 := hc6
    have hc7' : w2.drew.cell? ⟨g, m * 8 + 7, none⟩ = some v7 := hc7
    have hfg' : ∀ j, w2.drew.frozen? ⟨g, j, none⟩ = false := hfrg
    refine wp_region_can [(true, 0), (true, 1), (true, 2), (true, 3), (true, 4), (true, 5), (true, 6), (true, 7), (true, 8), (true, 9), (true, 10), (true, 11), (true, 12), (true, 13), (true, 14), (true, 15), (true, 16), (true, 17), (true, 18), (true, 19), (true, 20), (true, 21), (true, 22), (true, 23), (true, 24), (true, 25), (false, 26), (true, 27), (true, 28), (false, 29)] (fun u => u.cell? ⟨P, 8, none⟩ = some (.int .i64 (st.line : Int)) ∧ u.cell? ⟨P, 9, none⟩ = some (.slice (some ⟨g, 0, none⟩) (m + 1) cp)) hS0 (by kernel_rfl) (by kernel_rfl) (by kernel_rfl) (fun _ _ d _ _ h => by cases d <;> exact h) ?_
    generalize w2.drew = w3 at hB3 hc6' hc7' hfg' hcd hcd2 hP4 hfr4 hf3 hS0 ⊢
    clear hc6 hc7 hfrg hQ2 hfr he1 he3 he8 he9
    repeat (first | refine wpCan_move rfl ?_ | (refine wpCan_cons rfl ?_; intro K hK; go_simp; refine hK _ _ _ ?_; clear hK K))
    refine wpCan_read (.slice (some ⟨g, 0, none⟩) (m + 1) cp) rfl rfl hS0 (fun u hu => by obtain ⟨k0, k1⟩ := hu; go_simp) ?_
    repeat (first | refine wpCan_move rfl ?_ | (refine wpCan_cons rfl ?_; intro K hK; go_simp; refine hK _ _ _ ?_; clear hK K))
    refine wpCan_read (.slice (some ⟨g, 0, none⟩) (m + 1) cp) rfl rfl hS0 (fun u hu => by obtain ⟨k0, k1⟩ := hu; go_simp) ?_
    repeat (first | refine wpCan_move rfl ?_ | (refine wpCan_cons rfl ?_; intro K hK; go_simp; refine hK _ _ _ ?_; clear hK K))
    refine wpCan_read (.slice (some ⟨g, 0, none⟩) (m + 1) cp) rfl rfl hS0 (fun u hu => by obtain ⟨k0, k1⟩ := hu; go_simp) ?_
    repeat (first | refine wpCan_move rfl ?_ | (refine wpCan_cons rfl ?_; intro K hK; go_simp; refine hK _ _ _ ?_; clear hK K))
    refine wpCan_read (.slice (some ⟨g, 0, none⟩) (m + 1) cp) rfl rfl hS0 (fun u hu => by obtain ⟨k0, k1⟩ := hu; go_simp) ?_
    repeat (first | refine wpCan_move rfl ?_ | (refine wpCan_cons rfl ?_; intro K hK; go_simp; refine hK _ _ _ ?_; clear hK K))
    refine wpCan_read (.int .i64 (st.line : Int)) rfl rfl hS0 (fun u hu => by obtain ⟨k0, k1⟩ := hu; go_simp) ?_
    repeat (first | refine wpCan_move rfl ?_ | (refine wpCan_cons rfl ?_; intro K hK; go_simp; refine hK _ _ _ ?_; clear hK K))
    refine wpCan_cons rfl ?_
    intro K hK
    go_simp
    refine can_same (hS1 _ _ _ hS0) (hK _ _ _ ?_)
    clear hK K
    repeat (first | refine wpCan_move rfl ?_ | (refine wpCan_cons rfl ?_; intro K hK; go_simp; refine hK _ _ _ ?_; clear hK K))
    refine wpCan_cons rfl ?_
    intro K hK
    go_simp
    refine can_same (hS1 _ _ _ (hS1 _ _ _ hS0)) (hK _ _ _ ?_)
    clear hK K
    refine wpCan_nil ?_
    go_wp2_with fail
    go_returns
    have hres := hcd2.out none (.pointer none) rfl
    rw [← hPL.out] at hres
    exact ⟨rfl, ⟨_, _, _, _, hres⟩, ((hB3.out.setCell (p := ⟨g, m * 8 + 6, none⟩) hgB _).setCell (p := ⟨g, m * 8 + 7, none⟩) hgB _).setCell hP1 _⟩
  · have h00 : ((nb : Int) == 0) = false := by rw [beq_eq_false_iff_ne]; omega
    have hne : st.opn.isEmpty = false := by
      cases hq : st.opn with
      | nil => exact absurd (by rw [← hnb.out, hq]; rfl) h0
      | cons _ _ => rfl
    rw [hne, if_neg (by simp)] at hPL
    subst hPL
    have m1 := Lib.hid (set_fence hA (o := none) (v := .pointer none) rfl)
    replace hA := Lib.hid hA
    go_wp2_with fail
    go_returns
    exact ⟨rfl, ⟨_, _, _, _, m1.out⟩, hB2.out.setCell hP1 _⟩
end
end Go.Proofs.YtmbcddehacfpgaaGreatDoor

namespace Go.Proofs.YtmbcddehacfpgaaGreatDoor
open Go.RowKit

/-- some containers more than at first, which hold no text -/
structure Bk.Grown (st : Bk.St) (p : Nat) (st' : Bk.St) : Prop where
  ok : Bk.Ok st'
  nodes : st'.ns.length ≤ st.ns.length + 2 * p
  texts : ∀ x ∈ st'.ns, x ∈ st.ns ∨ x.text = []
  para : st'.para = none
  fence : st'.fence = none
  places : st'.places = st.places
  line : st'.line = st.line
theorem Bk.Grown.shut {st : Bk.St} (h : Bk.Ok st) (k : Nat) : Bk.Grown st 0 (Bk.shut k st) := ⟨h.shut k, by simp [Bk.shut], fun _ hx => .inl hx, rfl, rfl, rfl, rfl⟩
theorem Bk.Ok.opened {st : Bk.St} (h : Bk.Ok st) {b : Bk.Box} (hb : b.n < st.ns.length) (hl : st.opn.length < 40) : Bk.Ok (Bk.opened b st) :=
  ⟨h.pos, fun c hc => (List.mem_append.1 hc).elim (h.opn c) (fun h => by rw [List.mem_singleton] at h; subst h; exact hb), h.para, h.fence, by simp only [Bk.opened, List.length_append, List.length_singleton]; omega, h.small, h.root⟩
theorem push_opn (o : Option (UInt8 × Nat)) (st : Bk.St) : (Bk.push o st).opn.length = st.opn.length + 1 := by
  cases o with
  | none => simp [Bk.push, Bk.quote]
  | some p =>
    obtain ⟨c, n⟩ := p
    simp only [Bk.push, Bk.item]
    split <;> simp
theorem quote_eq (st : Bk.St) : Bk.push none st = Bk.opened ⟨st.ns.length, none⟩ (Bk.put ⟨some (Bk.last st), 1, 0, [], [], st.line, 0⟩ st) := rfl
theorem Bk.Grown.push {st st' : Bk.St} {p : Nat} (h : Bk.Grown st p st') (hl : st'.opn.length < 40) (hs : st'.ns.length + 2 ≤ 1000000000) (o : Option (UInt8 × Nat)) : Bk.Grown st (p + 1) (Bk.push o st') := by
  cases o with
  | none =>
    rw [quote_eq]
    have hok := (h.ok.put (x := ⟨some (Bk.last st'), 1, 0, [], [], st'.line, 0⟩) (fun i hi => by cases hi; exact h.ok.last) (by omega)).opened (b := ⟨st'.ns.length, none⟩) (by simp [Bk.put]) hl
    refine ⟨hok, ?_, fun x hx => ?_, h.para, h.fence, h.places, h.line⟩
    · have := h.nodes; simp only [Bk.opened, Bk.put, List.length_append, List.length_singleton]; omega
    · rcases List.mem_append.1 hx with hx | hx
      · exact h.texts x hx
      · rw [List.mem_singleton] at hx; subst hx; exact .inr rfl
  | some q =>
    obtain ⟨c, n⟩ := q
    have hie := Bk.item_eq c n st'
    obtain ⟨hok1, hl1, hop1, hnl1⟩ := Bk.listed_ok h.ok (by omega) c
    have hli : (Bk.listed c st').1.para = st'.para ∧ (Bk.listed c st').1.fence = st'.fence ∧ (Bk.listed c st').1.places = st'.places ∧ (Bk.listed c st').1.line = st'.line ∧ ∀ x ∈ (Bk.listed c st').1.ns, x ∈ st'.ns ∨ x.text = [] := by
      unfold Bk.listed
      split
      · exact ⟨rfl, rfl, rfl, rfl, fun x hx => .inl hx⟩
      · refine ⟨rfl, rfl, rfl, rfl, fun x hx => ?_⟩
        rcases List.mem_append.1 hx with hx | hx
        · exact .inl hx
        · rw [List.mem_singleton] at hx; subst hx; exact .inr rfl
    have hok := (hok1.put (x := ⟨some (Bk.listed c st').2, 3, 0, [], [], (Bk.listed c st').1.line, 0⟩) (fun i hi => by cases hi; exact hl1) (by omega)).opened (b := ⟨(Bk.listed c st').1.ns.length, some n⟩) (by simp [Bk.put]) (by simp only [Bk.put]; rw [hop1]; exact hl)
    show Bk.Grown st (p + 1) (Bk.item c n st')
    rw [hie]
    refine ⟨hok, ?_, fun x hx => ?_, hli.1.trans h.para, hli.2.1.trans h.fence, hli.2.2.1.trans h.places, hli.2.2.2.1.trans h.line⟩
    · have := h.nodes; simp only [Bk.opened, Bk.put, List.length_append, List.length_singleton]; omega
    · rcases List.mem_append.1 hx with hx | hx
      · rcases hli.2.2.2.2 x hx with h1 | h1
        · exact h.texts x h1
        · exact .inr h1
      · rw [List.mem_singleton] at hx; subst hx; exact .inr rfl
theorem item_len {l r : List UInt8} {c : UInt8} {n : Nat} (h : Lf.item l = some (c, n, r)) : r.length ≤ l.length + 3 := by
  unfold Lf.item at h
  have hr : (Fn.rs l).length ≤ l.length := by unfold Fn.rs; rw [List.length_drop]; omega
  split at h
  · cases h
  · rename_i d t hrs
    rw [hrs, List.length_cons] at hr
    split at h
    · split at h
      · cases h; simp
      · cases h
        have := Cl.strip_len (Lf.inner (Fn.cl t) : Int) t
        omega
    · cases h

/-- at the loop's head -/
def LoopAt (E : Nat → Option Part) (P B : Nat) (st : Bk.St) (k : Nat) (T : List UInt8) (G : Bk.St × List UInt8) (be : Bool) (s : List UInt8) (wr : World) : Prop :=
  ∃ st' A KV ov pv, Hp wr B (parts E P A KV ov pv st') ∧ ((be = false ∧ st' = st ∧ s = T) ∨
    (be = true ∧ k < 40 ∧ (Bk.opener T).isSome = true ∧ ∃ p, st'.opn.length = k + p ∧ 1 ≤ p ∧ k + p ≤ 40 ∧ Bk.Grown st p st' ∧ s.length ≤ T.length + 3 * p ∧ Bk.grow (40 - (k + p)) st' s = G))
/-- behind the loop -/
def LoopEnd (E : Nat → Option Part) (P B : Nat) (st : Bk.St) (k : Nat) (T : List UInt8) (G : Bk.St × List UInt8) (be : Bool) (s : List UInt8) (wr : World) : Prop :=
  ∃ st' A KV ov pv, Hp wr B (parts E P A KV ov pv st') ∧ ((be = false ∧ st' = st ∧ s = T ∧ (¬ k < 40 ∨ Bk.opener T = none)) ∨
    (be = true ∧ k < 40 ∧ (Bk.opener T).isSome = true ∧ ∃ p, st'.opn.length = k + p ∧ k + p ≤ 40 ∧ p ≤ 40 ∧ Bk.Grown st p st' ∧ s.length ≤ T.length + 3 * p ∧ (st', s) = G))
def openLen (w : World) (P : Nat) : Nat := match w.cell? ⟨P, 1, none⟩ with
  | some (.slice _ n _) => n
  | _ => 0
def unbegun : Value → Nat
  | .bool false => 100
  | _ => 0
theorem openLen_at {w : World} {B P : Nat} {E : Nat → Option Part} {A : Nat → Nat} {KV : Nat → Value} {ov pv : Value} {st : Bk.St} (h : Hp w B (parts E P A KV ov pv st)) : openLen w P = st.opn.length := by
  obtain ⟨_, _, _, _, h1, _⟩ := par_facts h
  obtain ⟨Ad, c, hov, _⟩ := own_shape (h.own (k := .opn) rfl)
  unfold openLen; rw [h1, hov]

section
variable (E : Nat → Option Part) (P B : Nat) (st : Bk.St) (k : Nat) (T : List UInt8) (G : Bk.St × List UInt8)
/-- what is behind the first container that is begun -/
theorem loop_first {A : Nat → Nat} {KV : Nat → Value} {ov pv : Value} {w : World} {o : Option (UInt8 × Nat)} {r : List UInt8} (hok : Bk.Ok st) (hk : k ≤ st.opn.length) (hk4 : k < 40) (hs : st.ns.length + 2 ≤ 1000000000) (ho : Bk.opener T = some (o, r)) (hr : r.length ≤ T.length + 3)
    (hG : ∀ o r, Bk.opener T = some (o, r) → Bk.grow (39 - k) (Bk.push o (Bk.shut k st)) r = G) (h : Hp w B (parts E P A KV ov pv (Bk.push o (Bk.shut k st)))) : LoopAt E P B st k T G true r w := by
  have hlen : (Bk.shut k st).opn.length = k := by simp only [Bk.shut, List.length_take]; omega
  refine ⟨_, _, _, _, _, h, .inr ⟨rfl, hk4, by rw [ho]; rfl, 1, by rw [push_opn, hlen], by omega, by omega, (Bk.Grown.shut hok k).push (by omega) hs o, by omega, ?_⟩⟩
  rw [show 40 - (k + 1) = 39 - k from by omega]
  exact hG o r ho
theorem loop_next (hk4 : k < 40) (hso : (Bk.opener T).isSome = true) {A : Nat → Nat} {KV : Nat → Value} {ov pv : Value} {w : World} {o : Option (UInt8 × Nat)} {r s : List UInt8} {st' : Bk.St} {p : Nat} (h1 : st'.opn.length = k + p) (h2 : 1 ≤ p) (h3 : k + p < 40) (hg : Bk.Grown st p st') (hsl : s.length ≤ T.length + 3 * p)
    (hs : st'.ns.length + 2 ≤ 1000000000) (ho : Bk.opener s = some (o, r)) (hr : r.length ≤ s.length + 3) (hG : Bk.grow (40 - (k + p)) st' s = G) (h : Hp w B (parts E P A KV ov pv (Bk.push o st'))) : LoopAt E P B st k T G true r w := by
  refine ⟨_, _, _, _, _, h, .inr ⟨rfl, hk4, hso, p + 1, by rw [push_opn, h1]; omega, by omega, by omega, hg.push (by omega) hs o, by omega, ?_⟩⟩
  rw [show 40 - (k + p) = 40 - (k + (p + 1)) + 1 from by omega, Bk.grow, ho] at hG
  exact hG
theorem opener_quote {s q : List UInt8} (h : Lf.quote s = some q) : Bk.opener s = some (none, q) := by unfold Bk.opener; rw [h]
theorem opener_item {s r : List UInt8} {c : UInt8} {n : Nat} (h : Lf.quote s = none) (h2 : Lf.item s = some (c, n, r)) : Bk.opener s = some (some (c, n), r) := by unfold Bk.opener; rw [h, h2]
theorem opener_none {s : List UInt8} (h : Lf.quote s = none) (h2 : Lf.item s = none) : Bk.opener s = none := by unfold Bk.opener; rw [h, h2]
end

set_option maxHeartbeats 4000000 in
set_option maxRecDepth 100000 in
theorem rtext_below (E : Nat → Option Part) (P : Nat) (A : Nat → Nat) (KV : Nat → Value) (ov pv : Value) (st : Bk.St) (w : World) (B : Nat) (h : Hp w B (parts E P A KV ov pv st)) (hfit : Bk.Fits st)
    (s T : List UInt8) (hT : T.length ≤ 50000000) (hnn : st.ns.length + 100 ≤ 500000000) (k : Nat) (hk : k ≤ st.opn.length) (hc : st.fence = none ∨ k ≠ st.opn.length)
    (htk : ∀ w, Hp w B (parts E P A KV ov pv st) → Calls Tryz.prog 42 #[ptr P, .string (bs s)] w fun e w' => e = .returned (.tuple #[.int .i64 (k : Int), .string (bs T)]) ∧ Below w.heap.size w w') :
    Calls Tryz.prog 28 #[ptr P, .string (bs s)] w fun e w' =>
      e = .returned (.tuple #[]) ∧ (∃ A' KV' ov' pv', Hp w' B (parts E P A' KV' ov' pv' (Bk.below T k st))) ∧ Below B w w' := by
  have hok := hfit.ok
  have hfew := hok.few
  have hnod := hfit.nodes
  have hBw : B ≤ w.heap.size := by have := par_cells h; omega
  obtain ⟨G, hG⟩ : ∃ G, ∀ o r, Bk.opener T = some (o, r) → Bk.grow (39 - k) (Bk.push o (Bk.shut k st)) r = G := by
    cases ho : Bk.opener T with
    | none => exact ⟨(st, T), fun o r h => by cases h⟩
    | some p => obtain ⟨o, r⟩ := p; exact ⟨_, fun o' r' h => by cases h; rfl⟩
  have hpo : ∃ c : Bool, ∀ (wr : World), True := ⟨true, fun _ => trivial⟩
  clear hpo
  go_enter Tryz.func28, Tryz.ntmps28
  go_wp2_with fail
  refine (htk _ h).mono ?_
  rintro e w1 ⟨rfl, hb1⟩
  have hA := h.ext hb1
  have hB1 := hb1.mono hBw
  obtain ⟨_, hP2, _, _, hd1, _, hd3, _⟩ := par_facts hA
  have ho := hA.own (k := .opn) rfl
  obtain ⟨Ad, cc, hov, hlc⟩ := own_shape ho
  rw [hov] at hd1
  clear ho hlc
  obtain ⟨nb, hnb⟩ : ∃ nb, st.opn.length = nb := ⟨_, rfl⟩
  rw [hnb] at hd1 hfew hk
  have hways : (k = nb ∧ optPtr A st.fence = .pointer none ∧ ((k : Int) == (nb : Int)) = true) ∨ (((k : Int) == (nb : Int)) = false ∧ ((∃ q, optPtr A st.fence = ptr q) ∨ optPtr A st.fence = .pointer none)) := by
    by_cases hkn : k = nb
    · rcases hc with hc | hc
      · exact .inl ⟨hkn, by rw [hc]; rfl, by rw [beq_iff_eq]; omega⟩
      · exact absurd (hkn.trans hnb.symm) hc
    · refine .inr ⟨by rw [beq_eq_false_iff_ne]; omega, ?_⟩
      cases st.fence with
      | none => exact .inr rfl
      | some i => exact .inl ⟨A i, rfl⟩
  replace h := Lib.hid h
  replace hov := Lib.hid hov
  replace hnb := Lib.hid hnb
  replace hG := Lib.hid hG
  replace hA := Lib.hid hA
  replace hB1 := Lib.hid hB1
  replace hb1 := Lib.hid hb1
  obtain ⟨ft, hft⟩ : ∃ v, optPtr A st.fence = v := ⟨_, rfl⟩
  rw [hft] at hd3 hways
  clear hft hc
  go_upto_region 2 with fail
  go_cut [6, 35] (fun u v wx => wx = w1 ∧ v = .bool false ∧ ∃ al, u = .bool al)
  case first =>
    rcases hways with ⟨rfl, rfl, he⟩ | ⟨he, _⟩
    · go_wp2_with fail
      go_meet
      case rel => exact ⟨rfl, rfl, _, rfl⟩
    · go_wp2_with fail
      go_meet
      case rel => exact ⟨rfl, rfl, _, rfl⟩
  case rest =>
    obtain ⟨rfl, rfl, al, rfl⟩ := hcut
    clear hways
    go_upto_block 0 with fail
    obtain ⟨w0, hw0⟩ : ∃ w0, w0 = wc := ⟨wc, rfl⟩
    subst hw0
    go_cut [5, 7] (fun u v wx => ∃ be s', u = .string (bs s') ∧ v = .bool be ∧ Hid (LoopEnd E P B st k T G be s' wx) ∧ Hid (Below B w0 wx))
    case first =>
      go_wp2_with fail
      go_loopw [5, 7] (fun u v wr => ∃ be s', u = .string (bs s') ∧ v = .bool be ∧ Hid (LoopAt E P B st k T G be s' wr) ∧ Hid (Below B w0 wr)) (fun _ v wr => unbegun v + (40 - openLen wr P))
      case atStart => exact ⟨false, T, rfl, rfl, Lib.hid ⟨st, A, KV, ov, pv, hA.out, .inl ⟨rfl, rfl, rfl⟩⟩, Lib.hid (Below.refl _ _)⟩
      case round =>
        obtain ⟨be, s', rfl, rfl, hat, hbb⟩ := hrel
        obtain ⟨st', A', KV', ov', pv', H, hcase⟩ := hat.out
        have hopl := openLen_at H
        clear hat
        rcases hcase with ⟨rfl, hst, hsT⟩ | ⟨rfl, hk40, hso, p, hp1, hp2, hp3, hgr, hsl, hgw⟩
        · have hst2 := hst.symm
          have hsT2 := hsT.symm
          subst hst2
          subst hsT2
          clear hst hsT
          obtain ⟨_, hP2, _, _, hd1, _⟩ := par_facts H
          have ho := H.own (k := .opn) rfl
          obtain ⟨Ad, cc, hov, hlc⟩ := own_shape ho
          rw [hov] at hd1
          have hbl : ∀ (x : World), Below B wr x → Below B w0 x := fun x hx => hbb.out.trans hx
          have hq := fun w => rquote_any T w (by omega)
          have hit := fun w => ritem_any T w (by omega)
          rw [hnb.out] at hd1 hopl
          have hkO : k ≤ st.opn.length := by rw [hnb.out]; exact hk
          have hfO : st.opn.length ≤ 40 := hok.few
          replace H := Lib.hid H
          replace hopl := Lib.hid hopl
          by_cases hk4 : k < 40
          · have hc2 : decide ((k : Int) < 40) = true := by simp; omega
            have hc1 : decide ((nb : Int) < 40) = true ∨ decide ((nb : Int) < 40) = false := by
              by_cases hx : nb < 40
              · exact .inl (by simp; omega)
              · exact .inr (by simp; omega)
            cases hQ : Lf.quote T with
            | some q =>
              have hql := quote_len hQ
              have hop := opener_quote hQ
              rw [hQ] at hq
              replace hq : ∀ w, Calls Tryz.prog 45 #[.string (bs T)] w fun e w' => e = .returned (.tuple #[.string (bs q), .bool true]) ∧ w = w' := hq
              clear hit
              rcases hc1 with hc1 | hc1
              all_goals
                go_wp2_with fail
                refine (hq _).mono ?_
                rintro e w2 ⟨rfl, rfl⟩
                go_wp2_with fail
                refine (rshut_any E P _ _ _ _ st _ B H.out k (by omega) (by omega)).mono ?_
                rintro e w2b ⟨rfl, ⟨ov2, H2⟩, hb2⟩
                have hokS := hok.shut k
                replace H2 := Lib.hid H2
                replace hb2 := Lib.hid hb2
                go_wp2_with fail
                refine (radd_any E P _ _ _ _ (Bk.shut k st) _ B H2.out hokS 1 0 [] []).mono ?_
                rintro e w3 ⟨a, kv, rfl, H3, hb3⟩
                obtain ⟨_, hP3, _, _, hd13, _⟩ := par_facts H3
                have ho3 := H3.own (k := .opn) rfl
                obtain ⟨Ad3, cc3, hov3, hlc3⟩ := own_shape ho3
                rw [hov3] at hd13 ho3
                have hop5 := fun w5 v => @opened_done _ B P E _ _ _ _ _ H3 ⟨(Bk.shut k st).ns.length, none⟩ w5 v _ (more_at _ (Bk.shut k st).ns.length a)
                rw [hov3] at hop5
                have hol : (Bk.add 1 0 [] [] 0 (Bk.shut k st)).opn.length ≤ 40 := by have := hokS.few; exact this
                obtain ⟨nb3, hnb3⟩ : ∃ n, (Bk.add 1 0 [] [] 0 (Bk.shut k st)).opn.length = n := ⟨_, rfl⟩
                rw [hnb3] at hd13 ho3 hop5 hol
                have hB3z : B ≤ w3.heap.size := by have := (par_cells H3).1; omega
                replace hop5 := Lib.hid hop5
                replace ho3 := Lib.hid ho3
                replace H3 := Lib.hid H3
                replace hb3 := Lib.hid hb3
                replace hov3 := Lib.hid hov3
                replace hnb3 := Lib.hid hnb3
                clear hlc3
                go_wp2_with (
                  at_builtin
                  refine wpList_app_two rfl (.tmp 131) (.tmp 134) rfl boxEI rfl ho3.out rfl (by simp) rfl (by intro u hu; simp at hu; rcases hu with rfl | rfl <;> rfl) (by omega) (by omega) (by omega) ?_
                  intro ov' w5 hown5 hg5 hb5 hat5
                  obtain ⟨Ad5, c5, rfl, hlc5⟩ := own_shape hown5
                  obtain ⟨y1, y2, y3, y4, H5, hb6⟩ := hop5.out _ _ hown5 hg5.out hat5.out hb5
                  replace H5 := Lib.hid H5
                  replace hb6 := Lib.hid hb6)
                go_roundw
                case rel => exact ⟨true, q, rfl, rfl, Lib.hid (loop_first E P B st k T G hok (by omega) hk4 (by omega) hop (by omega) hG.out H5.out), Lib.hid (hbl _ ((hb2.out.trans hb3.out).trans hb6.out))⟩
                case measure =>
                  rw [openLen_at H5.out, hopl.out]
                  simp only [unbegun]
                  omega
            | none =>
              rw [hQ] at hq
              replace hq : ∀ w, Calls Tryz.prog 45 #[.string (bs T)] w fun e w' => e = .returned (.tuple #[.string ⟨#[]⟩, .bool false]) ∧ w = w' := hq
              cases hI : Lf.item T with
              | none =>
                have hop := opener_none hQ hI
                rw [hI] at hit
                replace hit : ∀ w, Calls Tryz.prog 48 #[.string (bs T)] w fun e w' => e = .returned (.tuple #[.int .u8 0, .int .i64 0, .string ⟨#[]⟩, .bool false]) ∧ Below w.heap.size w w' := hit
                rcases hc1 with hc1 | hc1
                all_goals
                  go_wp2_with fail
                  refine (hq _).mono ?_
                  rintro e w2 ⟨rfl, rfl⟩
                  go_wp2_with fail
                  refine (hit _).mono ?_
                  rintro e w2b ⟨rfl, hb2⟩
                  have H3 := Lib.hid (H.out.ext hb2)
                  have hBr : B ≤ wr.heap.size := by have := (par_cells H.out); omega
                  have hb3 := Lib.hid (hb2.mono hBr)
                  replace hb2 := Lib.hid hb2
                  go_wp2_with fail
                  go_meet
                  case rel => exact ⟨false, T, rfl, rfl, Lib.hid ⟨st, _, _, _, _, H3.out, .inl ⟨rfl, rfl, rfl, .inr hop⟩⟩, Lib.hid (hbl _ hb3.out)⟩
              | some t =>
                obtain ⟨c, n, r⟩ := t
                have hql := item_len hI
                have hop := opener_item hQ hI
                rw [hI] at hit
                replace hit : ∀ w, Calls Tryz.prog 48 #[.string (bs T)] w fun e w' => e = .returned (.tuple #[.int .u8 (c.toNat : Int), .int .i64 (n : Int), .string (bs r), .bool true]) ∧ Below w.heap.size w w' := hit
                rcases hc1 with hc1 | hc1
                all_goals
                  go_wp2_with fail
                  refine (hq _).mono ?_
                  rintro e w2 ⟨rfl, rfl⟩
                  go_wp2_with fail
                  refine (hit _).mono ?_
                  rintro e w2b ⟨rfl, hb2⟩
                  have HX := H.out.ext hb2
                  have hBr : B ≤ wr.heap.size := by have := (par_cells H.out); omega
                  have hbx := Lib.hid (hb2.mono hBr)
                  replace HX := Lib.hid HX
                  replace hb2 := Lib.hid hb2
                  go_wp2_with fail
                  refine (rshut_any E P _ _ _ _ st _ B HX.out k (by omega) (by omega)).mono ?_
                  rintro e w2c ⟨rfl, ⟨ov2, H2⟩, hb2c⟩
                  have hokS := hok.shut k
                  replace H2 := Lib.hid H2
                  replace hb2c := Lib.hid hb2c
                  go_wp2_with fail
                  refine (ritemAdd_any E P _ _ _ _ (Bk.shut k st) _ B H2.out hokS (by simp only [Bk.shut]; omega) c n).mono ?_
                  rintro e w3 ⟨rfl, ⟨A3, K3, o3, H5⟩, hb6⟩
                  replace H5 := Lib.hid H5
                  replace hb6 := Lib.hid hb6
                  go_wp2_with fail
                  go_roundw
                  case rel => exact ⟨true, r, rfl, rfl, Lib.hid (loop_first E P B st k T G hok (by omega) hk4 (by omega) hop (by omega) hG.out H5.out), Lib.hid (hbl _ ((hbx.out.trans hb2c.out).trans hb6.out))⟩
                  case measure =>
                    rw [openLen_at H5.out, hopl.out]
                    simp only [unbegun]
                    omega
          · have hc2 : decide ((k : Int) < 40) = false := by simp; omega
            have hc1 : decide ((nb : Int) < 40) = false := by simp; omega
            clear hq hit
            go_wp2_with fail
            go_meet
            case rel => exact ⟨false, T, rfl, rfl, Lib.hid ⟨st, _, _, _, _, H.out, .inl ⟨rfl, rfl, rfl, .inl hk4⟩⟩, hbb⟩
        · obtain ⟨_, hP2, _, _, hd1, _⟩ := par_facts H
          have ho := H.own (k := .opn) rfl
          obtain ⟨Ad, cc, hov, hlc⟩ := own_shape ho
          rw [hov] at hd1
          have hbl : ∀ (x : World), Below B wr x → Below B w0 x := fun x hx => hbb.out.trans hx
          have hq := fun w => rquote_any s' w (by omega)
          have hit := fun w => ritem_any s' w (by omega)
          have hok' := hgr.ok
          have hnod' := hgr.nodes
          rw [hp1] at hd1 hopl
          obtain ⟨nb', hnb'⟩ : ∃ n, k + p = n := ⟨_, rfl⟩
          rw [hnb'] at hd1 hopl
          replace hnb' := Lib.hid hnb'
          replace H := Lib.hid H
          replace hopl := Lib.hid hopl
          by_cases hk4 : nb' < 40
          · have hc1 : decide ((nb' : Int) < 40) = true := by simp; omega
            have hkp : k + p < 40 := by rw [hnb'.out]; exact hk4
            cases hQ : Lf.quote s' with
            | some q =>
              have hql := quote_len hQ
              have hop := opener_quote hQ
              rw [hQ] at hq
              replace hq : ∀ w, Calls Tryz.prog 45 #[.string (bs s')] w fun e w' => e = .returned (.tuple #[.string (bs q), .bool true]) ∧ w = w' := hq
              clear hit
              go_wp2_with fail
              refine (hq _).mono ?_
              rintro e w2 ⟨rfl, rfl⟩
              go_wp2_with fail
              refine (radd_any E P _ _ _ _ (st') _ B H.out hok' 1 0 [] []).mono ?_
              rintro e w3 ⟨a, kv, rfl, H3, hb3⟩
              obtain ⟨_, hP3, _, _, hd13, _⟩ := par_facts H3
              have ho3 := H3.own (k := .opn) rfl
              obtain ⟨Ad3, cc3, hov3, hlc3⟩ := own_shape ho3
              rw [hov3] at hd13 ho3
              have hop5 := fun w5 v => @opened_done _ B P E _ _ _ _ _ H3 ⟨(st').ns.length, none⟩ w5 v _ (more_at _ (st').ns.length a)
              rw [hov3] at hop5
              have hol : (Bk.add 1 0 [] [] 0 (st')).opn.length ≤ 40 := by have := hok'.few; exact this
              obtain ⟨nb3, hnb3⟩ : ∃ n, (Bk.add 1 0 [] [] 0 (st')).opn.length = n := ⟨_, rfl⟩
              rw [hnb3] at hd13 ho3 hop5 hol
              have hB3z : B ≤ w3.heap.size := by have := (par_cells H3).1; omega
              replace hop5 := Lib.hid hop5
              replace ho3 := Lib.hid ho3
              replace H3 := Lib.hid H3
              replace hb3 := Lib.hid hb3
              replace hov3 := Lib.hid hov3
              replace hnb3 := Lib.hid hnb3
              clear hlc3
              go_wp2_with (
                at_builtin
                refine wpList_app_two rfl (.tmp 131) (.tmp 134) rfl boxEI rfl ho3.out rfl (by simp) rfl (by intro u hu; simp at hu; rcases hu with rfl | rfl <;> rfl) (by omega) (by omega) (by omega) ?_
                intro ov' w5 hown5 hg5 hb5 hat5
                obtain ⟨Ad5, c5, rfl, hlc5⟩ := own_shape hown5
                obtain ⟨y1, y2, y3, y4, H5, hb6⟩ := hop5.out _ _ hown5 hg5.out hat5.out hb5
                replace H5 := Lib.hid H5
                replace hb6 := Lib.hid hb6)
              go_roundw
              case rel => exact ⟨true, q, rfl, rfl, Lib.hid (loop_next E P B st k T G hk40 hso hp1 hp2 hkp hgr hsl (by omega) hop (by omega) hgw H5.out), Lib.hid (hbl _ (hb3.out.trans hb6.out))⟩
              case measure =>
                rw [openLen_at H5.out, hopl.out]
                have hpl : (Bk.push none st').opn.length = nb' + 1 := by rw [push_opn, hp1, hnb'.out]
                have hpl2 : (Bk.opened ⟨st'.ns.length, none⟩ (Bk.add 1 0 [] [] 0 st')).opn.length = nb' + 1 := hpl
                simp only [unbegun]
                omega
            | none =>
              rw [hQ] at hq
              replace hq : ∀ w, Calls Tryz.prog 45 #[.string (bs s')] w fun e w' => e = .returned (.tuple #[.string ⟨#[]⟩, .bool false]) ∧ w = w' := hq
              cases hI : Lf.item s' with
              | none =>
                have hop := opener_none hQ hI
                rw [hI] at hit
                replace hit : ∀ w, Calls Tryz.prog 48 #[.string (bs s')] w fun e w' => e = .returned (.tuple #[.int .u8 0, .int .i64 0, .string ⟨#[]⟩, .bool false]) ∧ Below w.heap.size w w' := hit
                go_wp2_with fail
                refine (hq _).mono ?_
                rintro e w2 ⟨rfl, rfl⟩
                go_wp2_with fail
                refine (hit _).mono ?_
                rintro e w2b ⟨rfl, hb2⟩
                have H3 := Lib.hid (H.out.ext hb2)
                have hBr : B ≤ wr.heap.size := by have := (par_cells H.out); omega
                have hb3 := Lib.hid (hb2.mono hBr)
                replace hb2 := Lib.hid hb2
                go_wp2_with fail
                go_meet
                case rel =>
                  refine ⟨true, s', rfl, rfl, Lib.hid ⟨st', _, _, _, _, H3.out, .inr ⟨rfl, hk40, hso, p, hp1, hp3, by omega, hgr, hsl, ?_⟩⟩, Lib.hid (hbl _ hb3.out)⟩
                  rw [show 40 - (k + p) = 40 - (k + p + 1) + 1 from by omega, Bk.grow, hop] at hgw
                  exact hgw
              | some t =>
                obtain ⟨c, n, r⟩ := t
                have hql := item_len hI
                have hop := opener_item hQ hI
                rw [hI] at hit
                replace hit : ∀ w, Calls Tryz.prog 48 #[.string (bs s')] w fun e w' => e = .returned (.tuple #[.int .u8 (c.toNat : Int), .int .i64 (n : Int), .string (bs r), .bool true]) ∧ Below w.heap.size w w' := hit
                go_wp2_with fail
                refine (hq _).mono ?_
                rintro e w2 ⟨rfl, rfl⟩
                go_wp2_with fail
                refine (hit _).mono ?_
                rintro e w2b ⟨rfl, hb2⟩
                have HX := H.out.ext hb2
                have hBr : B ≤ wr.heap.size := by have := (par_cells H.out); omega
                have hbx := Lib.hid (hb2.mono hBr)
                replace HX := Lib.hid HX
                replace hb2 := Lib.hid hb2
                go_wp2_with fail
                refine (ritemAdd_any E P _ _ _ _ (st') _ B HX.out hok' (by omega) c n).mono ?_
                rintro e w3 ⟨rfl, ⟨A3, K3, o3, H5⟩, hb6⟩
                replace H5 := Lib.hid H5
                replace hb6 := Lib.hid hb6
                go_wp2_with fail
                go_roundw
                case rel => exact ⟨true, r, rfl, rfl, Lib.hid (loop_next E P B st k T G hk40 hso hp1 hp2 hkp hgr hsl (by omega) hop (by omega) hgw H5.out), Lib.hid (hbl _ (hbx.out.trans hb6.out))⟩
                case measure =>
                  rw [openLen_at H5.out, hopl.out]
                  have hpl : (Bk.item c n st').opn.length = nb' + 1 := by have := push_opn (some (c, n)) st'; rw [hp1, hnb'.out] at this; exact this
                  simp only [unbegun]
                  omega
          · have hc1 : decide ((nb' : Int) < 40) = false := by simp; omega
            clear hq hit
            go_wp2_with fail
            go_meet
            case rel =>
              refine ⟨true, s', rfl, rfl, Lib.hid ⟨st', _, _, _, _, H.out, .inr ⟨rfl, hk40, hso, p, hp1, hp3, by omega, hgr, hsl, ?_⟩⟩, hbb⟩
              rw [show 40 - (k + p) = 0 from by have := hnb'.out; omega, Bk.grow] at hgw
              exact hgw
    case rest =>
      obtain ⟨be, s', rfl, rfl, hend, hbb⟩ := hcut
      obtain ⟨st', A', KV', ov', pv', H, hcase⟩ := hend.out
      have hB0 := Lib.hid (hB1.out.trans hbb.out)
      clear hend
      rcases hcase with ⟨rfl, hst, hsT, hno⟩ | ⟨rfl, hk40, hso, p, hp1, hp3, hp4, hgr, hsl, hgw⟩
      · have hst2 := hst.symm
        have hsT2 := hsT.symm
        subst hst2
        subst hsT2
        clear hst hsT
        have hbel : Bk.below T k st = Bk.leaf T k false st := by
          unfold Bk.below
          rcases hno with h1 | h1
          · rw [if_neg h1]
          · split
            · rw [h1]
            · rfl
        have hkO : k ≤ st.opn.length := by rw [hnb.out]; exact hk
        replace H := Lib.hid H
        replace hbel := Lib.hid hbel
        clear hno hd1 hd3
        go_wp2_with fail
        refine (rleaf_any E P _ _ _ _ st _ B H.out hfit k hkO T (by omega) al false).mono ?_
        rintro e w2 ⟨rfl, hres, hb2⟩
        replace hres := Lib.hid hres
        replace hb2 := Lib.hid hb2
        go_wp2_with fail
        go_returns
        exact ⟨rfl, by rw [hbel.out]; exact hres.out, hB0.out.trans hb2.out⟩
      · have hbel : Bk.below T k st = Bk.leaf s' st'.opn.length true st' := by
          unfold Bk.below
          rw [if_pos hk40]
          cases hop : Bk.opener T with
          | none => rw [hop] at hso; cases hso
          | some q =>
            obtain ⟨o, r⟩ := q
            simp only
            rw [hG.out o r hop, ← hgw]
        have hfit' : Bk.Fits st' := ⟨hgr.ok, fun x hx => (hgr.texts x hx).elim (hfit.texts x) (fun h => by rw [h]; simp), by rw [hgr.places]; exact hfit.pls, by rw [hgr.line]; exact hfit.ln, by have := hgr.nodes; omega⟩
        have hst3 : ({ ({ st' with para := none } : Bk.St) with fence := none } : Bk.St) = st' := by
          have h1 := hgr.para
          have h2 := hgr.fence
          cases st'
          simp only at h1 h2
          subst h1 h2
          rfl
        obtain ⟨hP1', hP2', hfr', _, hd1', hd2', hd3', _⟩ := par_facts H
        have ho' := H.own (k := .opn) rfl
        obtain ⟨Ad', cc', hov', hlc'⟩ := own_shape ho'
        rw [hov'] at hd1'
        have H2 := set_fence (set_para H (o := none) (v := .pointer none) rfl) (o := none) (v := .pointer none) rfl
        rw [hst3] at H2
        obtain ⟨nb2, hnb2⟩ : ∃ n, st'.opn.length = n := ⟨_, rfl⟩
        rw [hnb2] at hd1'
        obtain ⟨vp, hvp⟩ : ∃ v, optPtr A' st'.para = v := ⟨_, rfl⟩
        obtain ⟨vf, hvf⟩ : ∃ v, optPtr A' st'.fence = v := ⟨_, rfl⟩
        rw [hvp] at hd2'
        rw [hvf] at hd3'
        clear ho' hlc' hvp hvf hst3 hd1 hd3
        replace H := Lib.hid H
        replace H2 := Lib.hid H2
        replace hov' := Lib.hid hov'
        replace hbel := Lib.hid hbel
        replace hnb2 := Lib.hid hnb2
        replace hp1 := Lib.hid hp1
        have hleaf := fun w h => rleaf_any E P A' KV' ov' pv' st' w B h hfit' nb2 (by rw [hnb2.out]; exact Nat.le_refl _) s' (by omega) al true
        go_wp2_with fail
        refine (hleaf _ H2.out).mono ?_
        rintro e w2 ⟨rfl, hres, hb2⟩
        replace hres := Lib.hid hres
        replace hb2 := Lib.hid ((((Below.refl B _).setCell (p := ⟨P, 2, none⟩) hP1' (.pointer none)).setCell (p := ⟨P, 3, none⟩) hP1' (.pointer none)).trans hb2)
        go_wp2_with fail
        go_returns
        exact ⟨rfl, by rw [hbel.out, hnb2.out]; exact hres.out, hB0.out.trans hb2.out⟩
end Go.Proofs.YtmbcddehacfpgaaGreatDoor

namespace Go.Proofs.YtmbcddehacfpgaaGreatDoor
open Go.RowKit

theorem take_le (l : List Bk.Box) (s : List UInt8) : (Bk.take l s).1 ≤ l.length ∧ (Bk.take l s).2.length ≤ s.length + 3 * l.length := by
  induction l generalizing s with
  | nil => simp [Bk.take]
  | cons b r ih =>
    unfold Bk.take
    cases b.col with
    | none =>
      cases hq : Lf.quote s with
      | none => simp only [List.length_cons]; exact ⟨by omega, by omega⟩
      | some q =>
        have h1 := ih q
        have h2 := quote_len hq
        simp only [List.length_cons]
        constructor <;> omega
    | some n =>
      simp only [List.length_cons]
      split
      · have h1 := ih s
        constructor <;> dsimp only <;> omega
      · split
        · simp
        · have h1 := ih (Cl.strip n s)
          have h2 := Cl.strip_len (n : Int) s
          constructor <;> dsimp only <;> omega

theorem rtextl_any (E : Nat → Option Part) (P : Nat) (A : Nat → Nat) (KV : Nat → Value) (ov pv : Value) (st : Bk.St) (w : World) (B : Nat) (h : Hp w B (parts E P A KV ov pv st)) (hfit : Bk.Fits st)
    (s : List UInt8) (hs : s.length ≤ 40000000) (hnn : st.ns.length + 100 ≤ 500000000) (htop : st.fence ≠ none → st.opn = [] → ∃ r p, st.places = r ++ [p]) :
    Calls Tryz.prog 28 #[ptr P, .string (bs s)] w fun e w' =>
      e = .returned (.tuple #[]) ∧ (∃ A' KV' ov' pv', Hp w' B (parts E P A' KV' ov' pv' (Bk.text s st))) ∧ Below B w w' := by
  have htl := take_le st.opn s
  have hfew := hfit.ok.few
  have htk := fun w h => rtake_any E P A KV ov pv st w B h hfit.ok s (by omega)
  obtain ⟨k, hk⟩ : ∃ k, (Bk.take st.opn s).1 = k := ⟨_, rfl⟩
  obtain ⟨T, hT⟩ : ∃ T, (Bk.take st.opn s).2 = T := ⟨_, rfl⟩
  have htx : Bk.text s st = match st.fence with
    | some i => if k = st.opn.length then Bk.fenced T i st else Bk.below T k st
    | none => Bk.below T k st := by
    unfold Bk.text
    rw [hk, hT]
    cases st.fence <;> rfl
  rw [hk, hT] at htk htl
  rw [htx]
  cases hf : st.fence with
  | none => exact rtext_below E P A KV ov pv st w B h hfit s T (by omega) hnn k htl.1 (.inl hf) htk
  | some i =>
    simp only
    by_cases hkl : k = st.opn.length
    · rw [if_pos hkl]
      subst hkl
      have hen := fun w => rends_any st.f.c (st.f.n : Int) (st.f.ind : Int) (bs st.f.info) T w (by omega)
      unfold Bk.fenced
      cases hE : Fn.ends st.f.c (st.f.n : Int) T with
      | true =>
        rw [hE] at hen
        rw [if_pos rfl]
        exact rtext_ends E P A KV ov pv st w B h hfit s T i hf htk _ rfl (fun ho => htop (by rw [hf]; simp) ho) hen
      | false =>
        rw [hE] at hen
        rw [if_neg (by simp)]
        have hil := hfit.ok.fence i hf
        have hx := List.getElem?_eq_getElem hil
        simp only [hx, Option.map_some, Option.getD_some]
        have hr := rtext_line E P A KV ov pv st w B h hfit s T (by omega) i hf htk _ hx hen
        refine hr.mono ?_
        rintro e w9 ⟨h1, ⟨A9, K9, o9, p9, H⟩, h3⟩
        refine ⟨h1, ⟨A9, K9, o9, p9, H.same fun k => ?_⟩, h3⟩
        cases k <;> first | rfl | simp only [parts, parCells, hf]
    · rw [if_neg hkl]
      exact rtext_below E P A KV ov pv st w B h hfit s T (by omega) hnn k htl.1 (.inr hkl) htk

/-- what lies, behind so many lines -/
structure Bk.Fit (i : Nat) (st : Bk.St) : Prop where
  ok : Bk.Ok st
  texts : ∀ x ∈ st.ns, x.text.length ≤ i * 1000000
  pls : st.places.length ≤ i
  nodes : st.ns.length ≤ 1 + i * 100
  top : st.fence ≠ none → st.opn = [] → ∃ r p, st.places = r ++ [p]
theorem Bk.Fit.fits {i : Nat} {st : Bk.St} (h : Bk.Fit i st) (hi : i ≤ 400000) (hl : st.line ≤ 400000) : Bk.Fits st :=
  ⟨h.ok, fun x hx => by have := h.texts x hx; have : i * 1000000 ≤ 400000 * 1000000 := Nat.mul_le_mul_right _ hi; omega, by have := h.pls; omega, by omega, by have := h.nodes; omega⟩
theorem Bk.Ok.add {st : Bk.St} (h : Bk.Ok st) (hs : st.ns.length + 1 ≤ 1000000000) (kind level : Nat) (t info : List UInt8) (c : UInt8) : Bk.Ok (Bk.add kind level t info c st) :=
  h.put (x := ⟨some (Bk.last st), kind, level, t, info, st.line, c⟩) (fun i hi => by cases hi; exact h.last) hs
theorem Bk.Ok.setText {st : Bk.St} (h : Bk.Ok st) (i : Nat) (t : List UInt8) : Bk.Ok { st with ns := Bk.setText st.ns i t } := by
  have hl := Bk.setText_len st.ns i t
  refine ⟨by rw [hl]; exact h.pos, fun b hb => by rw [hl]; exact h.opn b hb, fun i hi => by rw [hl]; exact h.para i hi, fun i hi => by rw [hl]; exact h.fence i hi, h.few, by rw [hl]; exact h.small, ?_⟩
  intro n x j hn hj
  simp only [Bk.setText] at hn
  rw [List.getElem?_modify] at hn
  cases hg : st.ns[n]? with
  | none => rw [hg] at hn; cases hn
  | some y =>
    rw [hg] at hn
    replace hn := Option.some.inj hn
    refine h.root n y j hg ?_
    subst hn
    split at hj <;> exact hj
theorem setText_mem {ns : List Bk.Nd} {i : Nat} {t : List UInt8} {x : Bk.Nd} (hx : x ∈ Bk.setText ns i t) : x.text = t ∨ x ∈ ns := by
  unfold Bk.setText at hx
  obtain ⟨n, hn⟩ := List.mem_iff_getElem?.1 hx
  rw [List.getElem?_modify] at hn
  cases hg : ns[n]? with
  | none => rw [hg] at hn; cases hn
  | some y =>
    rw [hg] at hn
    replace hn := Option.some.inj hn
    split at hn
    · subst hn; exact .inl rfl
    · subst hn; exact .inr (List.mem_of_getElem? hg)

theorem head_len {l t : List UInt8} {n : Nat} (h : Lf.heading l = some (n, t)) : t.length ≤ l.length := by
  unfold Lf.heading at h
  have hr : (Fn.rs l).length ≤ l.length := by unfold Fn.rs; rw [List.length_drop]; omega
  split at h
  · cases h
    have h1 := Lf.title_len (Fn.trim ((Fn.rs l).drop (Fn.run 35 (Fn.rs l))))
    have h2 := Fn.trim_len ((Fn.rs l).drop (Fn.run 35 (Fn.rs l)))
    have h3 : ((Fn.rs l).drop (Fn.run 35 (Fn.rs l))).length ≤ (Fn.rs l).length := by rw [List.length_drop]; omega
    omega
  · cases h
/-- what a line adds at most -/
structure Bk.Step (N M : Nat) (st st' : Bk.St) : Prop where
  ok : Bk.Ok st'
  texts : ∀ x ∈ st'.ns, x.text.length ≤ N + M
  pls : st'.places.length ≤ st.places.length + 1
  nodes : st'.ns.length ≤ st.ns.length + 1
  top : st'.fence ≠ none → st'.opn = [] → ∃ r p, st'.places = r ++ [p]
theorem add_mem {st : Bk.St} {kind level : Nat} {t info : List UInt8} {c : UInt8} {x : Bk.Nd} (h : x ∈ (Bk.add kind level t info c st).ns) : x ∈ st.ns ∨ x.text = t := by
  rcases List.mem_append.1 h with h | h
  · exact .inl h
  · rw [List.mem_singleton] at h; subst h; exact .inr rfl
theorem leaf_step {st : Bk.St} {N M : Nat} (hok : Bk.Ok st) (htx : ∀ x ∈ st.ns, x.text.length ≤ N) (hs1 : st.ns.length + 1 ≤ 1000000000) (htop : st.fence ≠ none → st.opn = [] → ∃ r p, st.places = r ++ [p])
    (s : List UInt8) (hs : s.length + 1 ≤ M) (k : Nat) (be : Bool) : Bk.Step N M st (Bk.leaf s k be st) := by
  have hadd : ∀ (kind level : Nat) (t info : List UInt8), t.length ≤ N + M → Bk.Step N M st (Bk.add kind level t info 0 (Bk.shut k st)) := fun kind level t info ht =>
    ⟨(hok.shut k).add hs1 kind level t info 0, fun x hx => (add_mem hx).elim (fun h => by have := htx x h; omega) (fun h => by rw [h]; exact ht), by simp [Bk.add, Bk.shut], by simp [Bk.add, Bk.shut], fun h => absurd rfl h⟩
  have hlen : (Bk.add 4 0 (Fn.trim s) [] 0 (Bk.shut k st)).ns.length = st.ns.length + 1 := by simp [Bk.add, Bk.shut]
  have hpara : Bk.Step N M st { Bk.add 4 0 (Fn.trim s) [] 0 (Bk.shut k st) with para := some st.ns.length } := by
    have h := hadd 4 0 (Fn.trim s) [] (by have := Fn.trim_len s; omega)
    exact ⟨⟨h.ok.pos, h.ok.opn, fun i hi => by cases hi; rw [hlen]; omega, h.ok.fence, h.ok.few, h.ok.small, h.ok.root⟩, h.texts, h.pls, h.nodes, h.top⟩
  unfold Bk.leaf
  split
  · exact ⟨hok.shut k, fun x hx => by have := htx x hx; omega, by simp [Bk.shut], by simp [Bk.shut], fun h => absurd rfl h⟩
  · split
    · rename_i n t hh
      exact hadd 5 n t [] (by have := head_len hh; omega)
    · split
      · exact hadd 6 0 [] [] (by simp)
      · split
        · rename_i f _
          have h := hadd 7 0 [] f.info (by simp)
          have hl7 : (Bk.add 7 0 [] f.info 0 (Bk.shut k st)).ns.length = st.ns.length + 1 := by simp [Bk.add, Bk.shut]
          refine ⟨⟨h.ok.pos, h.ok.opn, h.ok.para, fun i hi => by cases hi; rw [hl7]; omega, h.ok.few, h.ok.small, h.ok.root⟩, h.texts, ?_, h.nodes, fun _ ho => ?_⟩
          · simp only
            split <;> simp
          · have ho' : st.opn.take k = [] := ho
            simp only
            rw [ho']
            exact ⟨st.places, _, rfl⟩
        · split
          · rename_i p hp
            have hpl := hok.para p hp
            refine ⟨hok.setText p _, fun x hx => ?_, by simp, by simp only; rw [Bk.setText_len]; omega, htop⟩
            rcases setText_mem hx with h | h
            · rw [h, List.getElem?_eq_getElem hpl]
              simp only [Option.map_some, Option.getD_some, List.length_append, List.length_cons]
              have := htx _ (List.getElem_mem hpl)
              have := Fn.trim_len s
              omega
            · have := htx x h; omega
          · exact hpara
theorem grow_grown {st : Bk.St} : ∀ (m : Nat) {p : Nat} {st' : Bk.St} {s : List UInt8}, Bk.Grown st p st' → st'.opn.length + m ≤ 40 → st.ns.length + 2 * (p + m) + 2 ≤ 1000000000 →
    ∃ q, q ≤ p + m ∧ Bk.Grown st q (Bk.grow m st' s).1 ∧ (Bk.grow m st' s).2.length ≤ s.length + 3 * m
  | 0, p, st', s, h, _, _ => ⟨p, by omega, h, by simp [Bk.grow]⟩
  | m + 1, p, st', s, h, hl, hs => by
    unfold Bk.grow
    cases ho : Bk.opener s with
    | none => exact ⟨p, by omega, h, by simp⟩
    | some x =>
      obtain ⟨o, r⟩ := x
      have hr : r.length ≤ s.length + 3 := by
        unfold Bk.opener at ho
        split at ho
        · rename_i q hq; cases ho; exact quote_len hq
        · split at ho
          · rename_i c n t hi; cases ho; exact item_len hi
          · cases ho
      have hg := h.push (by omega) (by have := h.nodes; omega) o
      obtain ⟨q, h1, h2, h3⟩ := grow_grown m (s := r) hg (by rw [push_opn]; omega) (by omega)
      exact ⟨q, by omega, h2, by simp only; omega⟩

theorem closeLast_len (n : Nat) (c : Bool) (ps : List Bk.Pl) : (Bk.closeLast n c ps).length = ps.length := by
  unfold Bk.closeLast
  cases h : ps.getLast? with
  | none => rfl
  | some p =>
    have hne : ps ≠ [] := by intro e; subst e; cases h
    have := List.length_pos_iff.2 hne
    simp only [List.length_append, List.length_dropLast, List.length_singleton]
    omega
set_option maxRecDepth 100000 in
theorem fit_step {i : Nat} {st : Bk.St} (h : Bk.Fit i st) (hi : i ≤ 100000) (s : List UInt8) (hs : s.length ≤ 300000) : Bk.Fit (i + 1) (Bk.text s st) := by
  have htl := take_le st.opn s
  have hfew := h.ok.few
  have hnod := h.nodes
  have hbelow : ∀ (T : List UInt8) (k : Nat), T.length ≤ 300120 → k ≤ st.opn.length → Bk.Fit (i + 1) (Bk.below T k st) := by
    intro T k hT hk
    have hleaf : ∀ {st' : Bk.St} {p : Nat} (s' : List UInt8) (k' : Nat) (be : Bool), Bk.Ok st' → (∀ x ∈ st'.ns, x.text.length ≤ i * 1000000) → st'.ns.length ≤ st.ns.length + 2 * p → p ≤ 40 → st'.places.length ≤ i → (st'.fence ≠ none → st'.opn = [] → ∃ r q, st'.places = r ++ [q]) → s'.length ≤ 400000 → Bk.Fit (i + 1) (Bk.leaf s' k' be st') := by
      intro st' p s' k' be hok htx hns hp hpl htop hsl
      have hst := leaf_step hok htx (by omega) htop s' (M := 500000) (by omega) k' be
      exact ⟨hst.ok, fun x hx => by have := hst.texts x hx; omega, by have := hst.pls; omega, by have := hst.nodes; omega, hst.top⟩
    unfold Bk.below
    split
    · rename_i hk4
      cases ho : Bk.opener T with
      | none => exact hleaf (p := 0) T k false h.ok h.texts (by omega) (by omega) h.pls h.top (by omega)
      | some x =>
        obtain ⟨o, r⟩ := x
        have hr : r.length ≤ T.length + 3 := by
          unfold Bk.opener at ho
          split at ho
          · rename_i q hq; cases ho; exact quote_len hq
          · split at ho
            · rename_i c n t hi; cases ho; exact item_len hi
            · cases ho
        have hlk : (Bk.shut k st).opn.length = k := by simp only [Bk.shut, List.length_take]; omega
        have hg := (Bk.Grown.shut h.ok k).push (by omega) (by simp only [Bk.shut]; omega) o
        obtain ⟨q, h1, h2, h3⟩ := grow_grown (39 - k) (s := r) hg (by rw [push_opn]; omega) (by omega)
        exact hleaf (p := q) _ _ _ h2.ok (fun x hx => (h2.texts x hx).elim (h.texts x) (fun e => by rw [e]; exact Nat.zero_le _)) h2.nodes (by omega) (by rw [h2.places]; exact h.pls) (fun hf => absurd h2.fence hf) (by omega)
    · exact hleaf (p := 0) T k false h.ok h.texts (by omega) (by omega) h.pls h.top (by omega)
  have htx9 : ∀ x ∈ st.ns, x.text.length ≤ (i + 1) * 1000000 := fun x hx => by
    have := h.texts x hx
    rw [Nat.succ_mul]
    exact Nat.le_trans this (Nat.le_add_right _ _)
  unfold Bk.text
  split
  · rename_i j hj
    split
    · unfold Bk.fenced
      split
      · refine ⟨⟨h.ok.pos, h.ok.opn, h.ok.para, (fun i hi => by cases hi), h.ok.few, h.ok.small, h.ok.root⟩, htx9, ?_, by simp only; omega, fun hf => absurd rfl hf⟩
        have := h.pls
        simp only
        split
        · rw [closeLast_len]; omega
        · omega
      · have hjl := h.ok.fence j hj
        refine ⟨h.ok.setText j _, fun x hx => ?_, by have := h.pls; simp only; omega, by simp only; rw [Bk.setText_len]; omega, h.top⟩
        rcases setText_mem hx with e | e
        · rw [e, List.getElem?_eq_getElem hjl]
          simp only [Option.map_some, Option.getD_some, List.length_append, List.length_cons, List.length_nil]
          have := h.texts _ (List.getElem_mem hjl)
          have := Cl.strip_len (st.f.ind : Int) (Bk.take st.opn s).2
          omega
        · exact htx9 x e
    · exact hbelow _ _ (by omega) htl.1
  · exact hbelow _ _ (by omega) htl.1
theorem fit_start : Bk.Fit 0 Bk.start :=
  ⟨⟨by decide, (fun b hb => by cases hb), (fun i hi => by cases hi), (fun i hi => by cases hi), by decide, by decide, fun j x i hj hi => by
    rcases j with _ | j
    · cases hj; cases hi
    · simp [Bk.start] at hj⟩, fun x hx => by simp only [Bk.start, List.mem_singleton] at hx; subst hx; exact Nat.zero_le _, by decide, by decide, fun hf => absurd rfl hf⟩
theorem Bk.Fit.line {i : Nat} {st : Bk.St} (h : Bk.Fit i st) (n : Nat) : Bk.Fit i { st with line := n } :=
  ⟨⟨h.ok.pos, h.ok.opn, h.ok.para, h.ok.fence, h.ok.few, h.ok.small, h.ok.root⟩, h.texts, h.pls, h.nodes, h.top⟩
end Go.Proofs.YtmbcddehacfpgaaGreatDoor

namespace Go.Proofs.YtmbcddehacfpgaaGreatDoor
open Go.RowKit
attribute [local go_sem] canOp readsAs readUpon

theorem blockEI : EI Tryz.prog 35 37 6 80 := EI.mk' (z := .agg #[.int .i64 0, .int .i64 0, .string ⟨#[]⟩, .string ⟨#[]⟩, .int .i64 0, .slice none 0 0]) Tryz.underlying35 (by kernel_rfl) rfl (by omega)
/-- the blocks of a row's trees: new, and not the row's own -/
def QB (w wr : World) (v : Value) (b : Nat) : Prop := w.heap.size + 2 ≤ b ∧ b < wr.heap.size ∧ some b ≠ v.ownBlock
/-- a block's variable, and the result's -/
def BlkAt (w wr : World) (X : Bk.Nd) (v : Value) : Prop :=
  wr.heap[w.heap.size + 1]? = some (.cells #[.int .i64 (X.kind : Int), .int .i64 (X.level : Int), .string (bs X.text), .string (bs X.info), .int .i64 (X.line : Int), v] 37 (0, 0)) ∧
  wr.heap[w.heap.size]? = some (.cells #[.int .i64 0, .int .i64 0, .string ⟨#[]⟩, .string ⟨#[]⟩, .int .i64 0, .slice none 0 0] 37 (0, 0))
/-- a round more -/
theorem round_done {w wr w2 w3 : World} {X : Bk.Nd} {v v' : Value} {k : Nat} {css : List (List Value)} {ts : List Bk.Tree} {t : Bk.Tree} {cs : List Value}
    (hB : BlkAt w wr X v) (hT : TCs wr (QB w wr v) ts css) (ho : wr.ownsRow (w.heap.size + 2) 37 6 v k css.flatten) (hb : Below w.heap.size w wr)
    (hb2 : Below wr.heap.size wr w2) (hc : TC w2 (fun b => wr.heap.size ≤ b ∧ b < w2.heap.size) t cs) (ho3 : w3.ownsRow (w.heap.size + 2) 37 6 v' (k + 1) (css.flatten ++ cs)) (hg : w2.grownBy w3 v.ownBlock) (hat : At w2.heap.size v v') :
    w3.heap[w.heap.size + 1]? = some (.cells #[.int .i64 (X.kind : Int), .int .i64 (X.level : Int), .string (bs X.text), .string (bs X.info), .int .i64 (X.line : Int), v] 37 (0, 0)) ∧
      BlkAt w (w3.setCell ⟨w.heap.size + 1, 5, none⟩ v') X v' ∧ TCs (w3.setCell ⟨w.heap.size + 1, 5, none⟩ v') (QB w (w3.setCell ⟨w.heap.size + 1, 5, none⟩ v') v') (ts ++ [t]) (css ++ [cs]) ∧
      (w3.setCell ⟨w.heap.size + 1, 5, none⟩ v').ownsRow (w.heap.size + 2) 37 6 v' (k + 1) (css ++ [cs]).flatten ∧ Below w.heap.size w (w3.setCell ⟨w.heap.size + 1, 5, none⟩ v') := by
  have hz := hb.size
  have hz2 := hb2.size
  have hz3 := hg.size
  have hlt1 := (Array.getElem?_eq_some_iff.1 hB.1).1
  have hnv : ∀ b, b < w.heap.size + 2 → some b ≠ v.ownBlock := fun b hb e => by have := (World.ownsRow.lt ho b e.symm).1; omega
  have hs1 : w3.heap[w.heap.size + 1]? = wr.heap[w.heap.size + 1]? := (hg.block _ (by omega) (hnv _ (by omega))).trans (hb2.block _ hlt1)
  have hs0 : w3.heap[w.heap.size]? = wr.heap[w.heap.size]? := (hg.block _ (by omega) (hnv _ (by omega))).trans (hb2.block _ (by omega))
  have hsz : (w3.setCell ⟨w.heap.size + 1, 5, none⟩ v').heap.size = w3.heap.size := by simp [World.setCell]
  have hset : ∀ b, b ≠ w.heap.size + 1 → (w3.setCell ⟨w.heap.size + 1, 5, none⟩ v').heap[b]? = w3.heap[b]? := fun b hb => Below.heap_setCell _ _ _ _ hb
  refine ⟨hs1.trans hB.1, ⟨heap_setCell_same _ _ 5 _ _ v' (hs1.trans hB.1), (hset _ (by omega)).trans (hs0.trans hB.2)⟩, ?_, ?_, ?_⟩
  · refine TCs_snoc (TCs_frame (fun b hb => ?_) (fun b hb => ?_) hT) (TC_frame (fun b hb => ?_) (fun b hb => ?_) hc)
    · rw [hset b (by have := hb.1; omega), hg.block b (by have := hb.2.1; omega) hb.2.2, hb2.block b hb.2.1]
    · refine ⟨hb.1, by rw [hsz]; have := hb.2.1; omega, fun e => ?_⟩
      rcases hat b e.symm with h1 | h1
      · exact hb.2.2 h1.symm
      · have := hb.2.1; omega
    · have hnb : some b ≠ v.ownBlock := fun e => by have := (World.ownsRow.lt ho b e.symm).2; have := hb.1; omega
      rw [hset b (by have := hb.1; omega), hg.block b hb.2 hnb]
    · refine ⟨by have := hb.1; omega, by rw [hsz]; have := hb.2; omega, fun e => ?_⟩
      rcases hat b e.symm with h1 | h1
      · have := (World.ownsRow.lt ho b h1).2; have := hb.1; omega
      · have := hb.2; omega
  · rw [List.flatten_append, List.flatten_cons, List.flatten_nil, List.append_nil]
    exact ho3.kept (grown_set w3 ⟨w.heap.size + 1, 5, none⟩ v') (by
      cases hv : v'.ownBlock with
      | none => exact .inl rfl
      | some g => refine .inr fun e => ?_
                  have := (World.ownsRow.lt ho3 g hv).1
                  have h9 : g = w.heap.size + 1 := Option.some.inj e
                  omega)
  · have hbw3 : Below w.heap.size w w3 := ⟨hg.os.trans (hb2.os.trans hb.os), hg.tape.trans (hb2.tape.trans hb.tape), hg.output.trans (hb2.output.trans hb.output), by omega, fun b hbl => by
      rw [hg.block b (by omega) (hnv b (by omega)), hb2.block b (by omega), hb.block b hbl]⟩
    exact hbw3.setCell (p := ⟨w.heap.size + 1, 5, none⟩) (by show w.heap.size ≤ w.heap.size + 1; omega) v'

set_option maxHeartbeats 2000000 in
set_option maxRecDepth 100000 in
theorem rblock_any (E : Nat → Option Part) (P : Nat) (A : Nat → Nat) (KV : Nat → Value) (ov pv : Value) (st : Bk.St) (hok : Bk.Ok st) : ∀ (n i : Nat) (_ : i < st.ns.length) (_ : st.ns.length - i ≤ n) (w : World) (B : Nat), Hp w B (parts E P A KV ov pv st) →
    Calls Tryz.prog 20 #[ptr (A i)] w fun e w' => ∃ cs, e = .returned (.agg cs.toArray) ∧ TC w' (fun b => w.heap.size ≤ b ∧ b < w'.heap.size) (Bk.treeT st.ns i) cs ∧ Below w.heap.size w w'
  | 0, i, hi, hn, _, _, _ => by omega
  | n + 1, i, hi, hn, w, B, h => by
    have ih := rblock_any E P A KV ov pv st hok n
    have hkg := fun k (hk : k ∈ Bk.kids st.ns i) => (⟨Bk.kids_lt hk, kids_gt hok.root hi hk⟩ : k < st.ns.length ∧ i < k)
    have hT := treeT_at hok.root hi
    obtain ⟨_, hq, hqc⟩ := node_cells h hi
    have q0 := cell_of hqc (j := 0) rfl
    have q1 := cell_of hqc (j := 1) rfl
    have q2 := cell_of hqc (j := 2) rfl
    have q3 := cell_of hqc (j := 3) rfl
    have q4 := cell_of hqc (j := 4) rfl
    have q5 := cell_of hqc (j := 5) rfl
    have q7 := cell_of hqc (j := 7) rfl
    have hkr := kid_row h hi
    obtain ⟨Ak, ck, hkv, hlk⟩ := own_shape hkr
    rw [hkv] at q7 hkr
    obtain ⟨X, hX⟩ : ∃ X, st.ns[i] = X := ⟨_, rfl⟩
    rw [hX] at q0 q1 q2 q3 q4 hT
    rw [hT]
    obtain ⟨ks, hks⟩ : ∃ ks, Bk.kids st.ns i = ks := ⟨_, rfl⟩
    have hkl := Bk.kids_len st.ns i
    have hsm := hok.small
    rw [hks] at hkr hkg q7 hlk hkl ⊢
    obtain ⟨q, hqq⟩ : ∃ q, A i = q := ⟨_, rfl⟩
    rw [hqq] at hq q0 q1 q2 q3 q4 q5 q7 ⊢
    replace h := Lib.hid h
    clear hqc hT hX hks hqq hkv
    go_enter Tryz.func20, Tryz.ntmps20
    go_wp2_with fail
    have hzz : (w.alloc (.cells #[.int .i64 0, .int .i64 0, .string ⟨#[]⟩, .string ⟨#[]⟩, .int .i64 0, .slice none 0 0] 37)).heap.size = w.heap.size + 1 := by simp
    go_loopw [15] (fun u wr => ∃ (k : Nat) (css : List (List Value)) (v : Value), k ≤ ks.length ∧ u = .int .i64 (k : Int) ∧ Hid (BlkAt w wr X v) ∧ Hid (wr.ownsRow (w.heap.size + 2) 37 6 v k css.flatten) ∧ Hid (TCs wr (QB w wr v) ((ks.take k).map (Bk.treeT st.ns)) css) ∧ Hid (Below w.heap.size w wr)) (fun u _ => ks.length - (intOf u).toNat)
    case atStart => exact ⟨0, [], .slice none 0 0, by omega, rfl, Lib.hid ⟨blk_two w _ _, blk_one w _ _⟩, Lib.hid (World.ownsRow_nil _ _ _ _), Lib.hid TCs_nil, Lib.hid ((ext_alloc w _).alloc (by simp) _)⟩
    case round =>
      obtain ⟨k, css, v, hkk, rfl, hB, ho, hT, hb⟩ := hrel
      obtain ⟨vA, vc, rfl, hvc⟩ := own_shape ho.out
      rcases Nat.lt_or_eq_of_le hkk with hlt | rfl
      · have hrow := own_below hkr hb.out
        obtain ⟨g, rfl⟩ : ∃ g, Ak = some ⟨g, 0, none⟩ := by
          rcases hkr.2 with ⟨hv, hn⟩ | ⟨g, cap, cur, hv, _⟩
          · omega
          · cases hv; exact ⟨g, rfl⟩
        obtain ⟨j, hj⟩ : ∃ j, ks[k] = j := ⟨_, rfl⟩
        have hx := own_cell (j := k) (u := ptr (A j)) hrow (by unfold kidCells; rw [List.getElem?_map, List.getElem?_eq_getElem hlt, hj]; rfl)
        obtain ⟨hj1, hj2⟩ := hkg j (by rw [← hj]; exact List.getElem_mem hlt)
        have hcall := fun w' B' h' => ih j hj1 (by omega) w' B' h'
        have hHr := h.out.ext hb.out
        have hk5 := cell_of hB.out.1 (j := 5) rfl
        have hgr : g < wr.heap.size := (World.ownsRow.lt hrow g rfl).2
        have hbl : w.heap.size + 1 < wr.heap.size := (Array.getElem?_eq_some_iff.1 hB.out.1).1
        have htk : (ks.take (k + 1)).map (Bk.treeT st.ns) = (ks.take k).map (Bk.treeT st.ns) ++ [Bk.treeT st.ns j] := by rw [List.take_add_one, List.getElem?_eq_getElem hlt, hj]; simp
        have hrd := fun w2 w3 v' cs hb2 hc ho3 hg hat => @round_done w wr.drew w2 w3 X (.slice vA k vc) v' k css _ (Bk.treeT st.ns j) cs hB.out (TCs_frame (w := wr) (w' := wr.drew) (Q := QB w wr (.slice vA k vc)) (Q' := QB w wr.drew (.slice vA k vc)) (fun _ _ => rfl) (fun _ h => h) hT.out) ho.out (hb.out.trans (Below.refl _ wr).drew) hb2 hc ho3 hg hat
        rw [← htk] at hrd
        replace hrow := Lib.hid hrow
        replace hHr := Lib.hid hHr
        replace hrd := Lib.hid hrd
        clear htk hj
        go_wp2_with fail
        refine wp_region_tree (.rd 0 (.rd 2 (.fk 1 (.mk 3 (.mk 4 (.mk 5 (.rd 6 (.mk 7 .fin))))) 3 (.fk 1 (.mk 4 (.mk 5 (.rd 6 (.mk 7 .fin)))) 4 (.mk 1 (.mk 5 (.rd 6 (.mk 7 .fin)))))))) (fun _ => True) trivial (by kernel_rfl) (by kernel_rfl) (by kernel_rfl) (fun _ _ d _ _ h => by cases d <;> exact h) ?_
        repeat (first | refine wpT_move rfl ?_ | (refine wpT_rd rfl ?_; intro K hK; go_simp; refine hK _ _ _ ?_; clear hK K))
        refine wpT_fk ?wa ?wb
        case' wa =>
          refine wpT_mk rfl ?_
          intro K hK
          go_simp
          first | refine hK _ _ _ ?_ | refine ⟨fun _ => True, trivial, hK _ _ _ ?_⟩ | refine ⟨fun _ => True, trivial, fun _ _ => trivial, hK _ _ _ ?_⟩
          clear hK K
          refine wpT_mk rfl ?_
          intro K hK
          go_simp
          refine (hcall wr.drew B hHr.out.drew).mono ?_
          rintro e w2 ⟨cs, rfl, hc, hb2⟩
          obtain ⟨c0, c1, c2, c3, c4, c5, rfl, hone⟩ := TC_six hc
          have ho2 := own_below (show wr.drew.ownsRow (w.heap.size + 2) 37 6 (.slice vA k vc) k css.flatten from ho.out) hb2
          have hk6 : w2.cell? ⟨w.heap.size + 1, 5, none⟩ = some (.slice vA k vc) := (World.cell?_of_block (hb2.block _ hbl)).trans hk5
          have hbl2 : w.heap.size + 1 < w2.heap.size := by have := hb2.size; have h9 : wr.drew.heap.size = wr.heap.size := rfl; omega
          replace ho2 := Lib.hid ho2
          replace hb2 := Lib.hid hb2
          replace hc := Lib.hid hc
          replace hone := Lib.hid hone
          first | refine hK _ _ _ ?_ | refine ⟨fun _ => True, trivial, hK _ _ _ ?_⟩ | refine ⟨fun _ => True, trivial, fun _ _ => trivial, hK _ _ _ ?_⟩
          clear hK K
          refine wpT_mk rfl ?_
          intro K hK
          go_simp
          first | refine hK _ _ _ ?_ | refine ⟨fun _ => True, trivial, hK _ _ _ ?_⟩ | refine ⟨fun _ => True, trivial, fun _ _ => trivial, hK _ _ _ ?_⟩
          clear hK K
        case' wb =>
          refine wpT_mk rfl ?_
          intro K hK
          go_simp
          refine (hcall wr.drew B hHr.out.drew).mono ?_
          rintro e w2 ⟨cs, rfl, hc, hb2⟩
          obtain ⟨c0, c1, c2, c3, c4, c5, rfl, hone⟩ := TC_six hc
          have ho2 := own_below (show wr.drew.ownsRow (w.heap.size + 2) 37 6 (.slice vA k vc) k css.flatten from ho.out) hb2
          have hk6 : w2.cell? ⟨w.heap.size + 1, 5, none⟩ = some (.slice vA k vc) := (World.cell?_of_block (hb2.block _ hbl)).trans hk5
          have hbl2 : w.heap.size + 1 < w2.heap.size := by have := hb2.size; have h9 : wr.drew.heap.size = wr.heap.size := rfl; omega
          replace ho2 := Lib.hid ho2
          replace hb2 := Lib.hid hb2
          replace hc := Lib.hid hc
          replace hone := Lib.hid hone
          first | refine hK _ _ _ ?_ | refine ⟨fun _ => True, trivial, hK _ _ _ ?_⟩ | refine ⟨fun _ => True, trivial, fun _ _ => trivial, hK _ _ _ ?_⟩
          clear hK K
          refine wpT_fk ?wc ?wd
          case' wc =>
            refine wpT_mk rfl ?_
            intro K hK
            go_simp
            first | refine hK _ _ _ ?_ | refine ⟨fun _ => True, trivial, hK _ _ _ ?_⟩ | refine ⟨fun _ => True, trivial, fun _ _ => trivial, hK _ _ _ ?_⟩
            clear hK K
            refine wpT_mk rfl ?_
            intro K hK
            go_simp
            first | refine hK _ _ _ ?_ | refine ⟨fun _ => True, trivial, hK _ _ _ ?_⟩ | refine ⟨fun _ => True, trivial, fun _ _ => trivial, hK _ _ _ ?_⟩
            clear hK K
          case' wd =>
            refine wpT_mk rfl ?_
            intro K hK
            go_simp
            first | refine hK _ _ _ ?_ | refine ⟨fun _ => True, trivial, hK _ _ _ ?_⟩ | refine ⟨fun _ => True, trivial, fun _ _ => trivial, hK _ _ _ ?_⟩
            clear hK K
            refine wpT_mk rfl ?_
            intro K hK
            go_simp
            first | refine hK _ _ _ ?_ | refine ⟨fun _ => True, trivial, hK _ _ _ ?_⟩ | refine ⟨fun _ => True, trivial, fun _ _ => trivial, hK _ _ _ ?_⟩
            clear hK K
        all_goals
          refine wpT_mk rfl ?_
          intro K hK
          unfold canOp
          rw [if_pos (by rfl), if_neg (by simp)]
          refine wp_app_row_at (.tmp 20) (.tmp 23) rfl blockEI rfl (ho2.out.alloc _) rfl (Row.freshN _ _ _ rfl rfl) (by intro u hu; exact hone.out u (by simpa using hu)) (by omega) (by omega) (by simp; omega) ?_
          intro v' w3 hown3 hg3 hb3 hat3
          obtain ⟨vA', vc', rfl, hvc'⟩ := own_shape hown3
          obtain ⟨r1, r2, r3, r4, r5⟩ := hrd.out w2 w3 (.slice vA' (k + 1) vc') _ hb2.out hc.out hown3 (grown_new hg3.out) (fun g hg => (hat3.out g hg).imp id (fun h => by simp at h; omega))
          have s5 := cell_of r1 (j := 5) rfl
          have sf := blk_free r1
          replace r1 := Lib.hid r1
          replace r2 := Lib.hid r2
          replace r3 := Lib.hid r3
          replace r4 := Lib.hid r4
          replace r5 := Lib.hid r5
          first | refine hK _ _ _ ?_ | refine ⟨fun _ => True, trivial, hK _ _ _ ?_⟩ | refine ⟨fun _ => True, trivial, fun _ _ => trivial, hK _ _ _ ?_⟩
          clear hK K
          repeat (first | refine wpT_move rfl ?_ | (refine wpT_rd rfl ?_; intro K hK; go_simp; refine hK _ _ _ ?_; clear hK K))
          refine wpT_mk rfl ?_
          intro K hK
          go_simp
          first | refine hK _ _ _ ?_ | refine ⟨fun _ => True, trivial, hK _ _ _ ?_⟩ | refine ⟨fun _ => True, trivial, fun _ _ => trivial, hK _ _ _ ?_⟩
          clear hK K
          refine wpT_fin ?_
          go_wp2_with fail
          go_roundw
          case rel => exact ⟨k + 1, _, _, by omega, by go_num, r2, r4, r3, r5⟩
          case measure => simp [intOf]; omega
      · have hB1 := hB.out.1
        have hB2 := hB.out.2
        have s0 := cell_of hB1 (j := 0) rfl
        have s1 := cell_of hB1 (j := 1) rfl
        have s2 := cell_of hB1 (j := 2) rfl
        have s3 := cell_of hB1 (j := 3) rfl
        have s4 := cell_of hB1 (j := 4) rfl
        have s5 := cell_of hB1 (j := 5) rfl
        have z0 := cell_of hB2 (j := 0) rfl
        have z1 := cell_of hB2 (j := 1) rfl
        have z2 := cell_of hB2 (j := 2) rfl
        have z3 := cell_of hB2 (j := 3) rfl
        have z4 := cell_of hB2 (j := 4) rfl
        have z5 := cell_of hB2 (j := 5) rfl
        have zf := blk_free hB2
        have sf := blk_free hB1
        replace hB1 := Lib.hid hB1
        replace hB2 := Lib.hid hB2
        go_wp2_with fail
        have hTf : TC (wrote wr w.heap.size (.int .i64 (X.kind : Int)) (.int .i64 (X.level : Int)) (.string (bs X.text)) (.string (bs X.info)) (.int .i64 (X.line : Int)) (.slice vA ks.length vc)) (fun b => w.heap.size ≤ b ∧ b < (wrote wr w.heap.size (.int .i64 (X.kind : Int)) (.int .i64 (X.level : Int)) (.string (bs X.text)) (.string (bs X.info)) (.int .i64 (X.line : Int)) (.slice vA ks.length vc)).heap.size)
            (.mk X.kind X.level X.text X.info X.line (ks.map (Bk.treeT st.ns))) [.int .i64 (X.kind : Int), .int .i64 (X.level : Int), .string (bs X.text), .string (bs X.info), .int .i64 (X.line : Int), .slice vA ks.length vc] := by
          unfold TC
          refine ⟨vA, vc, css, by rw [List.length_map], by rw [List.length_map]; exact hvc, ?_, ?_⟩
          · rw [List.length_map]
            exact (own_rowQ ho.out).frame (fun b hb => wrote_block wr (by have := hb.1; omega) _ _ _ _ _ _) (fun b hb => ⟨by have := hb.1; omega, by rw [wrote_size]; exact hb.2⟩)
          · have := hT.out
            rw [List.take_length] at this
            exact TCs_frame (fun b hb => wrote_block wr (by have := hb.1; omega) _ _ _ _ _ _) (fun b hb => ⟨by have := hb.1; omega, by rw [wrote_size]; exact hb.2.1⟩) this
        have hWa := wrote_at hB2.out (.int .i64 (X.kind : Int)) (.int .i64 (X.level : Int)) (.string (bs X.text)) (.string (bs X.info)) (.int .i64 (X.line : Int)) (.slice vA ks.length vc)
        have hWb := wrote_below hb.out (.int .i64 (X.kind : Int)) (.int .i64 (X.level : Int)) (.string (bs X.text)) (.string (bs X.info)) (.int .i64 (X.line : Int)) (.slice vA ks.length vc)
        change bodyPost _ _ _ _ _ (wrote wr w.heap.size (.int .i64 (X.kind : Int)) (.int .i64 (X.level : Int)) (.string (bs X.text)) (.string (bs X.info)) (.int .i64 (X.line : Int)) (.slice vA ks.length vc))
        generalize (wrote wr w.heap.size (.int .i64 (X.kind : Int)) (.int .i64 (X.level : Int)) (.string (bs X.text)) (.string (bs X.info)) (.int .i64 (X.line : Int)) (.slice vA ks.length vc)) = wz at hTf hWa hWb ⊢
        have y0 := cell_of hWa (j := 0) rfl
        have y1 := cell_of hWa (j := 1) rfl
        have y2 := cell_of hWa (j := 2) rfl
        have y3 := cell_of hWa (j := 3) rfl
        have y4 := cell_of hWa (j := 4) rfl
        have y5 := cell_of hWa (j := 5) rfl
        replace hWa := Lib.hid hWa
        clear s0 s1 s2 s3 s4 s5 z0 z1 z2 z3 z4 z5 zf sf q0 q1 q2 q3 q4 q5 q7
        exact bodyPost_ret (v := .agg #[.int .i64 (X.kind : Int), .int .i64 (X.level : Int), .string (bs X.text), .string (bs X.info), .int .i64 (X.line : Int), .slice vA ks.length vc]) (by rw [results_cell1 rfl]; go_simp) rfl ⟨_, rfl, hTf, hWb⟩
end Go.Proofs.YtmbcddehacfpgaaGreatDoor
