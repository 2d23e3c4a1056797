/- The document's own parser of blocks, as it lies in memory. The document's own parser of blocks: an item, of its list. The document's own parser of blocks: how many containers take a line, and what is left of it. -/
import Derived.Test.YtmbcddehacfpgaaGreatDoorMt09
import Derived.Test.YtmbcddehacfpgaaGreatDoorMt02
import Derived.Test.YtmbcddehacfpgaaGreatDoorMt12
import Derived.Test.YtmbcddehacfpgaaGreatDoorMt03
import Derived.Deep.QuietTactic
import Derived.BigQuiet
import Derived.Deep.CutBlock
import Derived.Deep.DeepCutAuto
namespace Go.Proofs.YtmbcddehacfpgaaGreatDoor
open Go.RowKit

inductive Key
  | par | opn | pls | node (i : Nat) | kid (i : Nat) | ext (i : Nat)
deriving DecidableEq
abbrev ptr (a : Nat) : Value := .pointer (some ⟨a, 0, none⟩)
def optPtr (A : Nat → Nat) : Option Nat → Value
  | none => .pointer none
  | some i => ptr (A i)
def nodeCells (x : Bk.Nd) (kv : Value) : Array Value :=
  #[.int .i64 (x.kind : Int), .int .i64 (x.level : Int), .string (bs x.text), .string (bs x.info), .int .i64 (x.line : Int), .slice none 0 0, .int .u8 (x.sign.toNat : Int), kv]
def parCells (A : Nat → Nat) (ov pv : Value) (st : Bk.St) : Array Value :=
  #[ptr (A 0), ov, optPtr A st.para, optPtr A st.fence, .int .u8 (st.f.c.toNat : Int), .int .i64 (st.f.n : Int), .int .i64 (st.f.ind : Int), .string (bs st.f.info), .int .i64 (st.line : Int), pv]
def colOf : Option Nat → Int
  | none => -1
  | some n => n
def boxCells (A : Nat → Nat) : List Bk.Box → List Value
  | [] => []
  | b :: r => ptr (A b.n) :: .int .i64 (colOf b.col) :: boxCells A r
def plCells : List Bk.Pl → List Value
  | [] => []
  | p :: r => .int .i64 (p.line : Int) :: .int .u8 (p.op.c.toNat : Int) :: .int .i64 (p.op.n : Int) :: .int .i64 (p.op.ind : Int) :: .string (bs p.op.info) :: .int .i64 (p.first : Int) :: .int .i64 (p.last : Int) :: .bool p.closed :: plCells r
def kidCells (A : Nat → Nat) (ks : List Nat) : List Value := ks.map fun j => ptr (A j)
def parts (E : Nat → Option Part) (P : Nat) (A : Nat → Nat) (KV : Nat → Value) (ov pv : Value) (st : Bk.St) : Key → Option Part
  | .par => some (.blk P (parCells A ov pv st) 64)
  | .opn => some (.row 105 2 ov st.opn.length (boxCells A st.opn))
  | .pls => some (.row 49 8 pv st.places.length (plCells st.places))
  | .node i => (st.ns[i]?).map fun x => .blk (A i) (nodeCells x (KV i)) 75
  | .kid i => (st.ns[i]?).map fun _ => .row 61 1 (KV i) (Bk.kids st.ns i).length (kidCells A (Bk.kids st.ns i))
  | .ext i => E i

theorem boxCells_append (A : Nat → Nat) (a b : List Bk.Box) : boxCells A (a ++ b) = boxCells A a ++ boxCells A b := by
  induction a with
  | nil => rfl
  | cons x r ih => simp [boxCells, ih]
theorem boxCells_len (A : Nat → Nat) (l : List Bk.Box) : (boxCells A l).length = l.length * 2 := by
  induction l with
  | nil => rfl
  | cons x r ih => simp only [boxCells, List.length_cons, ih]; omega
theorem boxCells_at (A : Nat → Nat) {l : List Bk.Box} {k : Nat} (hk : k < l.length) : (boxCells A l)[k * 2]? = some (ptr (A l[k].n)) ∧ (boxCells A l)[k * 2 + 1]? = some (.int .i64 (colOf l[k].col)) := by
  induction l generalizing k with
  | nil => simp at hk
  | cons x r ih =>
    rcases k with _ | k
    · exact ⟨rfl, rfl⟩
    · have := ih (k := k) (by simpa using hk)
      rw [show (k + 1) * 2 = k * 2 + 1 + 1 from by omega]
      simpa [boxCells] using this

theorem boxCells_take (A : Nat → Nat) (l : List Bk.Box) (k : Nat) : (boxCells A l).take (k * 2) = boxCells A (l.take k) := by
  induction l generalizing k with
  | nil => simp [boxCells]
  | cons x r ih =>
    rcases k with _ | k
    · simp [boxCells]
    · rw [show (k + 1) * 2 = k * 2 + 1 + 1 from by omega]
      simp [boxCells, ih]
theorem boxCells_one (A : Nat → Nat) (l : List Bk.Box) : ∀ u ∈ boxCells A l, u.oneCell' = true := by
  induction l with
  | nil => simp [boxCells]
  | cons x r ih =>
    intro u hu
    simp only [boxCells, List.mem_cons] at hu
    rcases hu with rfl | rfl | hu
    · rfl
    · rfl
    · exact ih u hu

section
variable {w : World} {B P : Nat} {E : Nat → Option Part} {A : Nat → Nat} {KV : Nat → Value} {ov pv : Value} {st : Bk.St}
/-- the parser's cells -/
theorem par_cells (h : Hp w B (parts E P A KV ov pv st)) : B ≤ P ∧ P < w.heap.size ∧ w.heap[P]? = some (.cells (parCells A ov pv st) 64 (0, 0)) := h.base (k := .par) rfl
theorem node_cells (h : Hp w B (parts E P A KV ov pv st)) {i : Nat} (hi : i < st.ns.length) : B ≤ A i ∧ A i < w.heap.size ∧ w.heap[A i]? = some (.cells (nodeCells st.ns[i] (KV i)) 75 (0, 0)) :=
  h.base (k := .node i) (by simp only [parts]; rw [List.getElem?_eq_getElem hi]; rfl)
theorem kid_row (h : Hp w B (parts E P A KV ov pv st)) {i : Nat} (hi : i < st.ns.length) : w.ownsRow B 61 1 (KV i) (Bk.kids st.ns i).length (kidCells A (Bk.kids st.ns i)) :=
  h.own (k := .kid i) (by simp only [parts]; rw [List.getElem?_eq_getElem hi]; rfl)
end

set_option maxHeartbeats 1000000 in
set_option maxRecDepth 100000 in
theorem rlast_any (E : Nat → Option Part) (P : Nat) (A : Nat → Nat) (KV : Nat → Value) (ov pv : Value) (st : Bk.St) (w : World) (B : Nat) (h : Hp w B (parts E P A KV ov pv st)) (hlen : st.opn.length ≤ 1000) :
    Calls Tryz.prog 72 #[ptr P, .int .i64 (st.opn.length : Int)] w fun e w' => e = .returned (ptr (A (Bk.last st))) ∧ w = w' := by
  obtain ⟨_, _, hp⟩ := par_cells h
  have hc0 := blk_cell hp 0
  have hc1 := blk_cell hp 1
  have ho := h.own (k := .opn) rfl
  clear h hp
  simp only [parCells] at hc0 hc1
  rw [List.getElem?_toArray] at hc0 hc1
  simp only [List.getElem?_cons_zero, List.getElem?_cons_succ] at hc0 hc1
  unfold Bk.last
  rcases List.eq_nil_or_concat st.opn with h0 | ⟨r, b, h0⟩
  · rw [h0]
    go_enter Tryz.func72, Tryz.ntmps72
    go_wp2_with fail
    go_ret
    exact ⟨rfl, rfl⟩
  · rw [List.concat_eq_append] at h0
    obtain ⟨Ad, c, hov, hlc⟩ := own_shape ho
    rw [hov] at ho hc1
    have hr := Row.own ho
    rw [h0] at ho hc1 hlen ⊢
    rw [List.length_append, List.length_singleton] at ho hc1 hlen ⊢
    rw [List.getLast?_concat]
    obtain ⟨g, rfl⟩ : ∃ g, Ad = some ⟨g, 0, none⟩ := by
      rcases ho.2 with ⟨hv, hn⟩ | ⟨g, cap, cur, hv, _⟩
      · cases hn
      · cases hv; exact ⟨g, rfl⟩
    have hcell := (boxCells_at A (l := r ++ [b]) (k := r.length) (by simp)).1
    rw [List.getElem_concat_length rfl] at hcell
    have hx := own_cell ho hcell
    go_enter Tryz.func72, Tryz.ntmps72
    go_wp2_with fail
    go_ret
    exact ⟨rfl, rfl⟩

theorem boxEI : EI Tryz.prog 62 105 2 16 := EI.mk' (z := .agg #[.pointer none, .int .i64 0]) Tryz.underlying62 (by kernel_rfl) rfl (by omega)

set_option maxHeartbeats 1000000 in
set_option maxRecDepth 100000 in
theorem rshut_any (E : Nat → Option Part) (P : Nat) (A : Nat → Nat) (KV : Nat → Value) (ov pv : Value) (st : Bk.St) (w : World) (B : Nat) (h : Hp w B (parts E P A KV ov pv st)) (k : Nat) (hk : k ≤ st.opn.length) (hlen : st.opn.length ≤ 1000) :
    Calls Tryz.prog 46 #[ptr P, .int .i64 (k : Int)] w fun e w' => e = .returned (.tuple #[]) ∧ (∃ ov', Hp w' B (parts E P A KV ov' pv (Bk.shut k st))) ∧ Below B w w' := by
  obtain ⟨_, _, hp⟩ := par_cells h
  have hc1 := blk_cell hp 1
  have hc2 := blk_cell hp 2
  have hc3 := blk_cell hp 3
  have hfr := blk_free hp
  have ho := h.own (k := .opn) rfl
  simp only [parCells] at hc1 hc2 hc3
  rw [List.getElem?_toArray] at hc1 hc2 hc3
  simp only [List.getElem?_cons_zero, List.getElem?_cons_succ] at hc1 hc2 hc3
  obtain ⟨Ad, c, hov, hlc⟩ := own_shape ho
  rw [hov] at ho
  have hr := (Row.own ho).take hk
  rw [boxCells_take] at hr
  have hBs : B ≤ w.heap.size := by omega
  have hone := boxCells_one A (st.opn.take k)
  have hlen2 : (st.opn.take k).length = k := by rw [List.length_take]; omega
  have hE := World.ownsRow_made (base := B) (e := 105) (size := 2) w #[] 0 hBs (by unfold maxLen; omega) rfl
  have hr2 := hr.alloc (Nat.le_refl _) (.cells #[] 105)
  obtain ⟨bx, hbx⟩ : ∃ bx, boxCells A (st.opn.take k) = bx := ⟨_, rfl⟩
  rw [hbx] at hone hr2
  have hks : (k : Int) ≤ (c : Int) := by omega
  rw [hov] at hc1
  replace h := Lib.hid h
  clear hov ho hr hp hc2 hc3 hfr
  go_enter Tryz.func46, Tryz.ntmps46
  go_wp2_with (
    at_builtin
    refine wpList_app_row_at rfl (.tmp 5) (.tmp 11) rfl boxEI rfl hE rfl hr2 hone (by omega) (by omega) (by simp; omega) ?_
    intro ov' w1 hown hg1 hb1 hat1
    obtain ⟨Ad2, c2, rfl, hlc2⟩ := own_shape hown
    have hbw := ext_grown (grown_new hg1.out) (Nat.le_refl _)
    have hp := par_cells (h.out.ext hbw)
    obtain ⟨hP1, hP2, hp⟩ := hp
    have hd1 := blk_cell hp 1
    have hd2 := blk_cell hp 2
    have hd3 := blk_cell hp 3
    have hfr := blk_free hp
    simp only [parCells] at hd1 hd2 hd3
    rw [List.getElem?_toArray] at hd1 hd2 hd3
    simp only [List.getElem?_cons_zero, List.getElem?_cons_succ] at hd1 hd2 hd3
    replace hbw := Lib.hid hbw
    replace hp := Lib.hid hp)
  go_returns
  have hat2 : ∀ g, (Value.slice Ad2 (0 + k) c2).ownBlock = some g → w.heap.size ≤ g := fun g hg => by
    rcases (show At (w.alloc (.cells #[] 105)).heap.size (.slice (some ⟨w.heap.size, 0, none⟩) 0 0) (.slice Ad2 (0 + k) c2) from hat1.out) g hg with h1 | h1
    · cases h1; exact Nat.le_refl _
    · simp at h1; omega
  have m1 := h.out.uput (k := .opn) (.row 105 2 (.slice Ad2 (0 + k) c2) (0 + k) bx) rfl (grown_ext hbw.out _) hown (fun g hg => .inr (hat2 g hg))
  have m2 := m1.ustore (k := .par) 1 (.slice Ad2 (0 + k) c2) rfl
  have m3 := m2.ustore (k := .par) 2 (.pointer none) rfl
  have m4 := m3.ustore (k := .par) 3 (.pointer none) rfl
  rw [Nat.zero_add] at m4
  refine ⟨rfl, ⟨.slice Ad2 k c2, m4.same fun j => ?_⟩, (((hbw.out.mono hBs).setCell hP1 _).setCell hP1 _).setCell hP1 _⟩
  cases j with
  | par => rfl
  | opn => simp only [parts, Bk.shut, hlen2, hbx]; rfl
  | pls => rfl
  | node i => rfl
  | kid i => rfl
  | ext i => rfl

/-- all that is open is there -/
structure Bk.Ok (st : Bk.St) : Prop where
  pos : 0 < st.ns.length
  opn : ∀ b ∈ st.opn, b.n < st.ns.length
  para : ∀ i, st.para = some i → i < st.ns.length
  fence : ∀ i, st.fence = some i → i < st.ns.length
  few : st.opn.length ≤ 40
  small : st.ns.length ≤ 1000000000
  root : Bk.ordered st.ns
theorem Bk.Ok.last {st : Bk.St} (h : Bk.Ok st) : Bk.last st < st.ns.length := by
  unfold Bk.last
  cases hl : st.opn.getLast? with
  | none => exact h.pos
  | some b => exact h.opn b (List.mem_of_getLast? hl)

theorem nodeEI : EI Tryz.prog 73 61 1 8 := EI.mk' (z := .pointer none) Tryz.underlying73 (by kernel_rfl) rfl (by omega)

/-- the addresses, one more -/
def more {α : Type} (f : Nat → α) (m : Nat) (a : α) : Nat → α := fun j => if j = m then a else f j

theorem more_at {α : Type} (f : Nat → α) (m : Nat) (a : α) : more f m a m = a := if_pos rfl
theorem more_ne {α : Type} (f : Nat → α) {m j : Nat} (a : α) (h : j ≠ m) : more f m a j = f j := if_neg h
theorem boxCells_more (A : Nat → Nat) {m a : Nat} {l : List Bk.Box} (h : ∀ b ∈ l, b.n < m) : boxCells (more A m a) l = boxCells A l := by
  induction l with
  | nil => rfl
  | cons x r ih =>
    rw [boxCells, boxCells, ih (fun b hb => h b (List.mem_cons_of_mem _ hb)), more_ne A a (by have := h x List.mem_cons_self; omega)]
theorem kidCells_more (A : Nat → Nat) {m a : Nat} {l : List Nat} (h : ∀ k ∈ l, k < m) : kidCells (more A m a) l = kidCells A l := by
  unfold kidCells
  refine List.map_congr_left fun k hk => ?_
  rw [more_ne A a (by have := h k hk; omega)]
theorem optPtr_more (A : Nat → Nat) {m a : Nat} {o : Option Nat} (h : ∀ i, o = some i → i < m) : optPtr (more A m a) o = optPtr A o := by
  cases o with
  | none => rfl
  | some i => simp only [optPtr]; rw [more_ne A a (by have := h i rfl; omega)]
theorem parCells_more (A : Nat → Nat) (ov pv : Value) {st : Bk.St} (hok : Bk.Ok st) (a : Nat) : parCells (more A st.ns.length a) ov pv st = parCells A ov pv st := by
  unfold parCells
  rw [optPtr_more A hok.para, optPtr_more A hok.fence, more_ne A a (by have := hok.pos; omega)]
theorem parts_put (E : Nat → Option Part) (P : Nat) (A : Nat → Nat) (KV : Nat → Value) (ov pv : Value) {st : Bk.St} (hok : Bk.Ok st) (x : Bk.Nd) {L : Nat} (hx : x.par = some L) (hL : L < st.ns.length) (a : Nat) (kv : Value) (k : Key) :
    parts E P (more A st.ns.length a) (more (more KV L kv) st.ns.length (.slice none 0 0)) ov pv (Bk.put x st) k =
    upd (upd (upd (upd (parts E P A KV ov pv st) (.node st.ns.length) (.blk a (nodeCells x (.slice none 0 0)) 75)) (.kid st.ns.length) (.row 61 1 (.slice none 0 0) 0 []))
      (.kid L) (.row 61 1 kv ((Bk.kids st.ns L).length + 1) (kidCells A (Bk.kids st.ns L) ++ [ptr a]))) (.node L) (.blk (A L) ((nodeCells st.ns[L] (KV L)).setIfInBounds 7 kv) 75) k := by
  cases k with
  | par => exact congrArg (fun c => some (Part.blk P c _)) (parCells_more A ov pv hok a)
  | opn => exact congrArg (fun c => some (Part.row _ 2 ov _ c)) (boxCells_more A hok.opn)
  | pls => rfl
  | node i =>
    simp only [parts, Bk.put]
    by_cases hi : i = L
    · subst hi
      rw [upd_same, List.getElem?_append_left hL, List.getElem?_eq_getElem hL, more_ne _ _ (by omega), more_ne _ _ (by omega), more_at]; rfl
    · rw [upd_other _ _ (by simpa using hi), upd_other _ _ (by simp), upd_other _ _ (by simp)]
      by_cases hm : i = st.ns.length
      · subst hm
        rw [upd_same, List.getElem?_append_right (Nat.le_refl _), Nat.sub_self, more_at, more_at]; rfl
      · rw [upd_other _ _ (by simpa using hm), more_ne _ _ hm, more_ne _ _ hm, more_ne _ _ hi]
        rcases Nat.lt_or_ge i st.ns.length with h | h
        · rw [List.getElem?_append_left h]; rfl
        · rw [List.getElem?_eq_none (by simp; omega)]
          simp only [parts]; rw [List.getElem?_eq_none h]
          try rfl
  | kid i =>
    simp only [parts, Bk.put]
    rw [upd_other _ _ (by simp)]
    by_cases hi : i = L
    · subst hi
      rw [upd_same, List.getElem?_append_left hL, List.getElem?_eq_getElem hL, Bk.kids_snoc, if_pos hx, more_ne _ _ (by omega), more_at, List.length_append]
      simp only [Option.map_some, List.length_singleton, kidCells, List.map_append, List.map_cons, List.map_nil, more_at]
      congr 2
      have := kidCells_more A (m := st.ns.length) (a := a) (l := Bk.kids st.ns i) (fun k hk => Bk.kids_lt hk)
      unfold kidCells at this
      rw [this]
    · rw [upd_other _ _ (by simpa using hi)]
      by_cases hm : i = st.ns.length
      · subst hm
        rw [upd_same, List.getElem?_append_right (Nat.le_refl _), Nat.sub_self, more_at, Bk.kids_snoc, if_neg (by rw [hx]; simp; omega), Bk.kids_none (Bk.rooted_of hok.root) (Nat.le_refl _)]; rfl
      · rw [upd_other _ _ (by simpa using hm), upd_other _ _ (by simp), more_ne _ _ hm, more_ne _ _ hi]
        rcases Nat.lt_or_ge i st.ns.length with h | h
        · rw [List.getElem?_append_left h, Bk.kids_snoc, if_neg (by rw [hx]; simp; omega), List.append_nil, kidCells_more A (fun k hk => Bk.kids_lt hk)]; rfl
        · rw [List.getElem?_eq_none (by simp; omega)]
          simp only [parts]; rw [List.getElem?_eq_none h]; rfl
  | ext i => rfl

set_option maxHeartbeats 1000000 in
set_option maxRecDepth 100000 in
theorem radd_any (E : Nat → Option Part) (P : Nat) (A : Nat → Nat) (KV : Nat → Value) (ov pv : Value) (st : Bk.St) (w : World) (B : Nat) (h : Hp w B (parts E P A KV ov pv st)) (hok : Bk.Ok st) (kind level : Nat) (t info : List UInt8) :
    Calls Tryz.prog 47 #[ptr P, .agg #[.int .i64 (kind : Int), .int .i64 (level : Int), .string (bs t), .string (bs info), .int .i64 0, .slice none 0 0]] w fun e w' =>
      ∃ a kv, e = .returned (ptr a) ∧ Hp w' B (parts E P (more A st.ns.length a) (more (more KV (Bk.last st) kv) st.ns.length (.slice none 0 0)) ov pv (Bk.add kind level t info 0 st)) ∧ Below B w w' := by
  obtain ⟨hB, hPw, hp⟩ := par_cells h
  have hc1 := blk_cell hp 1
  have hc8 := blk_cell hp 8
  simp only [parCells] at hc1 hc8
  rw [List.getElem?_toArray] at hc1 hc8
  simp only [List.getElem?_cons_zero, List.getElem?_cons_succ] at hc1 hc8
  have ho := h.own (k := .opn) rfl
  obtain ⟨Ad, c, hov, hlc⟩ := own_shape ho
  rw [hov] at hc1
  have hla := fun w h => rlast_any E P A KV ov pv st w B h (by have := hok.few; omega)
  have hBs : B ≤ w.heap.size := by omega
  have hL := hok.last
  obtain ⟨L, hLq⟩ : ∃ L, Bk.last st = L := ⟨_, rfl⟩
  rw [hLq] at hL hla ⊢
  obtain ⟨_, hq, hqc⟩ := node_cells h hL
  have hq7 := blk_cell hqc 7
  simp only [nodeCells] at hq7
  rw [List.getElem?_toArray] at hq7
  simp only [List.getElem?_cons_zero, List.getElem?_cons_succ] at hq7
  have hkr := kid_row h hL
  obtain ⟨Ak, ck, hkv, hlk⟩ := own_shape hkr
  have hkl := Bk.kids_len st.ns L
  have hsm := hok.small
  obtain ⟨o1, ho1⟩ : ∃ o, Obj.cells #[.int .i64 (kind : Int), .int .i64 (level : Int), .string (bs t), .string (bs info), .int .i64 (st.line : Int), .slice none 0 0] 37 = o := ⟨_, rfl⟩
  obtain ⟨cs2, hcs2⟩ : ∃ cs : Array Value, #[.int .i64 (kind : Int), .int .i64 (level : Int), .string (bs t), .string (bs info), .int .i64 (st.line : Int), .slice none 0 0, .int .u8 0, .slice none 0 0] = cs := ⟨_, rfl⟩
  have hb2 : Below w.heap.size w ((w.alloc o1).alloc (.cells cs2 75)) := (ext_alloc w o1).alloc (by simp) _
  have hz2 : ((w.alloc o1).alloc (.cells cs2 75)).heap.size = w.heap.size + 2 := by simp
  have hnew : ((w.alloc o1).alloc (.cells cs2 75)).heap[w.heap.size + 1]? = some (.cells cs2 75 (0, 0)) := blk_two w o1 _
  have hnm : st.ns[st.ns.length]? = none := List.getElem?_eq_none (Nat.le_refl _)
  have H0 := (h.umore (k := .node st.ns.length) (w' := (w.alloc o1).alloc (.cells cs2 75)) (.blk (w.heap.size + 1) cs2 75) (by simp only [parts, hnm]; rfl) hb2 ⟨by omega, hnew⟩
    (fun g hg => by cases hg; omega)).umore (k := .kid st.ns.length) (.row 61 1 (.slice none 0 0) 0 []) (by rw [upd_other _ _ (by simp)]; simp only [parts, hnm]; rfl) (Below.refl _ _) (World.ownsRow_nil _ _ _ _) (fun g hg => by cases hg)
  have hne : L ≠ st.ns.length := by omega
  have hkid : upd (upd (parts E P A KV ov pv st) (.node st.ns.length) (.blk (w.heap.size + 1) cs2 75)) (.kid st.ns.length) (.row 61 1 (.slice none 0 0) 0 []) (.kid L) = some (.row 61 1 (KV L) (Bk.kids st.ns L).length (kidCells A (Bk.kids st.ns L))) := by
    rw [upd_other _ _ (by simpa using hne), upd_other _ _ (by simp)]; simp only [parts]; rw [List.getElem?_eq_getElem hL]; rfl
  have hnod : ∀ x, upd (upd (upd (parts E P A KV ov pv st) (.node st.ns.length) (.blk (w.heap.size + 1) cs2 75)) (.kid st.ns.length) (.row 61 1 (.slice none 0 0) 0 [])) (.kid L) x (.node L) = some (.blk (A L) (nodeCells st.ns[L] (KV L)) 75) := by
    intro x
    rw [upd_other _ _ (by simp), upd_other _ _ (by simp), upd_other _ _ (by simpa using hne)]; simp only [parts]; rw [List.getElem?_eq_getElem hL]; rfl
  have hown := H0.own hkid
  obtain ⟨q, hqq⟩ : ∃ q, A L = q := ⟨_, rfl⟩
  rw [hqq] at hq hq7 hla hnod
  obtain ⟨nk, hnk⟩ : ∃ n, (Bk.kids st.ns L).length = n := ⟨_, rfl⟩
  rw [hnk] at hkv hown hkl hlk hkid
  rw [hkv] at hq7 hown hkid
  obtain ⟨kc, hkc⟩ : ∃ kc, kidCells A (Bk.kids st.ns L) = kc := ⟨_, rfl⟩
  rw [hkc] at hown hkid
  have hh2 := Lib.hid (h.ext hb2)
  replace h := Lib.hid h
  replace H0 := Lib.hid H0
  replace ho1 := Lib.hid ho1
  replace hcs2 := Lib.hid hcs2
  replace hown := Lib.hid hown
  replace hkid := Lib.hid hkid
  replace hnod := Lib.hid hnod
  clear ho hp hqc hkr hnew hb2 hz2
  go_enter Tryz.func47, Tryz.ntmps47
  go_wp2_with fail
  rw [ho1.out, hcs2.out]
  refine (hla _ hh2.out).mono ?_
  rintro e w2 ⟨rfl, rfl⟩
  go_wp2_with (
    at_builtin
    refine wpList_app_two rfl (.tmp 26) (.tmp 28) rfl nodeEI rfl hown.out rfl (by simp) rfl (by intro u hu; simp at hu; subst hu; rfl) (by omega) (by omega) (by simp; omega) ?_
    intro kv' w3 hown3 hg3 hb3 hat3
    obtain ⟨Ad3, c3, rfl, hlc3⟩ := own_shape hown3
    have H2 := H0.out.uput (.row 61 1 (.slice Ad3 (nk + 1) c3) (nk + 1) (kc ++ [ptr (w.heap.size + 1)])) hkid.out hg3.out hown3 (fun g hg => (hat3.out g hg))
    obtain ⟨hq1, hq2, hqc⟩ := H2.base (hnod.out _)
    have hd7 := blk_cell hqc 7
    have hfr := blk_free hqc
    simp only [nodeCells] at hd7
    rw [List.getElem?_toArray] at hd7
    simp only [List.getElem?_cons_zero, List.getElem?_cons_succ] at hd7
    have m3 := Lib.hid (H2.ustore 7 (.slice Ad3 (nk + 1) c3) (hnod.out _))
    replace H2 := Lib.hid H2
    replace hqc := Lib.hid hqc)
  go_ret
  refine ⟨w.heap.size + 1, rfl, ⟨.slice Ad3 (nk + 1) c3, m3.out.same fun j => ?_⟩, ((((ext_alloc w o1).alloc (by simp) _).mono hBs).trans hb3).setCell hq1 _⟩
  have := parts_put E P A KV (.slice Ad st.opn.length c) pv hok ⟨some L, kind, level, t, info, st.line, 0⟩ rfl hL (w.heap.size + 1) (.slice Ad3 (nk + 1) c3) j
  rw [hnk, hkc, hqq] at this
  unfold Bk.add
  rw [hLq, ← hcs2.out, hov]
  exact this
end Go.Proofs.YtmbcddehacfpgaaGreatDoor

namespace Go.Proofs.YtmbcddehacfpgaaGreatDoor
open Go.RowKit

section
variable {w : World} {B P : Nat} {E : Nat → Option Part} {A : Nat → Nat} {KV : Nat → Value} {ov pv : Value} {st : Bk.St}
theorem par_facts (h : Hp w B (parts E P A KV ov pv st)) : B ≤ P ∧ P < w.heap.size ∧ (∀ j, w.frozen? ⟨P, j, none⟩ = false) ∧ w.cell? ⟨P, 0, none⟩ = some (ptr (A 0)) ∧ w.cell? ⟨P, 1, none⟩ = some ov ∧
    w.cell? ⟨P, 2, none⟩ = some (optPtr A st.para) ∧ w.cell? ⟨P, 3, none⟩ = some (optPtr A st.fence) ∧ w.cell? ⟨P, 4, none⟩ = some (.int .u8 (st.f.c.toNat : Int)) ∧ w.cell? ⟨P, 5, none⟩ = some (.int .i64 (st.f.n : Int)) ∧
    w.cell? ⟨P, 6, none⟩ = some (.int .i64 (st.f.ind : Int)) ∧ w.cell? ⟨P, 7, none⟩ = some (.string (bs st.f.info)) ∧ w.cell? ⟨P, 8, none⟩ = some (.int .i64 (st.line : Int)) ∧ w.cell? ⟨P, 9, none⟩ = some pv := by
  obtain ⟨h1, h2, h3⟩ := par_cells h
  exact ⟨h1, h2, blk_free h3, cell_of h3 rfl, cell_of h3 rfl, cell_of h3 rfl, cell_of h3 rfl, cell_of h3 rfl, cell_of h3 rfl, cell_of h3 rfl, cell_of h3 rfl, cell_of h3 rfl, cell_of h3 rfl⟩
theorem node_facts (h : Hp w B (parts E P A KV ov pv st)) {i : Nat} (hi : i < st.ns.length) : B ≤ A i ∧ A i < w.heap.size ∧ (∀ j, w.frozen? ⟨A i, j, none⟩ = false) ∧ w.cell? ⟨A i, 0, none⟩ = some (.int .i64 (st.ns[i].kind : Int)) ∧
    w.cell? ⟨A i, 2, none⟩ = some (.string (bs st.ns[i].text)) ∧ w.cell? ⟨A i, 6, none⟩ = some (.int .u8 (st.ns[i].sign.toNat : Int)) ∧ w.cell? ⟨A i, 7, none⟩ = some (KV i) := by
  obtain ⟨h1, h2, h3⟩ := node_cells h hi
  exact ⟨h1, h2, blk_free h3, cell_of h3 rfl, cell_of h3 rfl, cell_of h3 rfl, cell_of h3 rfl⟩

/-- a new node in its parent's row: what the store wants to know, and what is behind it -/
theorem put_done (h : Hp w B (parts E P A KV ov pv st)) (hok : Bk.Ok st) (x : Bk.Nd) {L : Nat} (hx : x.par = some L) (hL : L < st.ns.length) {w2 w3 : World} {a : Nat} {kv : Value} (hb2 : Below w.heap.size w w2) (hfr : w.heap.size ≤ a)
    (ha : w2.heap[a]? = some (.cells (nodeCells x (.slice none 0 0)) 75 (0, 0)))
    (hown : w3.ownsRow B 61 1 kv ((Bk.kids st.ns L).length + 1) (kidCells A (Bk.kids st.ns L) ++ [ptr a])) (hg : w2.grownBy w3 (KV L).ownBlock) (hat : At w2.heap.size (KV L) kv) (hb3 : Below B w2 w3) :
    B ≤ A L ∧ A L < w3.heap.size ∧ w3.cell? ⟨A L, 7, none⟩ = some (KV L) ∧ (∀ j, w3.frozen? ⟨A L, j, none⟩ = false) ∧
      Hp (w3.setCell ⟨A L, 7, none⟩ kv) B (parts E P (more A st.ns.length a) (more (more KV L kv) st.ns.length (.slice none 0 0)) ov pv (Bk.put x st)) ∧ Below B w (w3.setCell ⟨A L, 7, none⟩ kv) := by
  obtain ⟨hB, hPw, _⟩ := par_cells h
  have hnm : st.ns[st.ns.length]? = none := List.getElem?_eq_none (Nat.le_refl _)
  have hne : L ≠ st.ns.length := by omega
  have H0 := (h.umore (k := .node st.ns.length) (.blk a (nodeCells x (.slice none 0 0)) 75) (by simp only [parts, hnm]; rfl) hb2 ⟨by omega, ha⟩
    (fun g hg => by cases hg; omega)).umore (k := .kid st.ns.length) (.row 61 1 (.slice none 0 0) 0 []) (by rw [upd_other _ _ (by simp)]; simp only [parts, hnm]; rfl) (Below.refl _ _) (World.ownsRow_nil _ _ _ _) (fun g hg => by cases hg)
  have hkid : upd (upd (parts E P A KV ov pv st) (.node st.ns.length) (.blk a (nodeCells x (.slice none 0 0)) 75)) (.kid st.ns.length) (.row 61 1 (.slice none 0 0) 0 []) (.kid L) = some (.row 61 1 (KV L) (Bk.kids st.ns L).length (kidCells A (Bk.kids st.ns L))) := by
    rw [upd_other _ _ (by simpa using hne), upd_other _ _ (by simp)]; simp only [parts]; rw [List.getElem?_eq_getElem hL]; rfl
  have H2 := H0.uput (.row 61 1 kv ((Bk.kids st.ns L).length + 1) (kidCells A (Bk.kids st.ns L) ++ [ptr a])) hkid hg hown hat
  have hnod := (show upd (upd (upd (parts E P A KV ov pv st) (.node st.ns.length) (.blk a (nodeCells x (.slice none 0 0)) 75)) (.kid st.ns.length) (.row 61 1 (.slice none 0 0) 0 [])) (.kid L) (.row 61 1 kv ((Bk.kids st.ns L).length + 1) (kidCells A (Bk.kids st.ns L) ++ [ptr a])) (.node L) = some (.blk (A L) (nodeCells st.ns[L] (KV L)) 75) from by
    rw [upd_other _ _ (by simp), upd_other _ _ (by simp), upd_other _ _ (by simpa using hne)]; simp only [parts]; rw [List.getElem?_eq_getElem hL]; rfl)
  obtain ⟨hq1, hq2, hqc⟩ := H2.base hnod
  have m3 := H2.ustore 7 kv hnod
  exact ⟨hq1, hq2, cell_of hqc rfl, blk_free hqc, m3.same fun j => parts_put E P A KV ov pv hok x hx hL a kv j, ((hb2.mono (by omega)).trans hb3).setCell hq1 _⟩

/-- a container more -/
theorem opened_done (h : Hp w B (parts E P A KV ov pv st)) (b : Bk.Box) {w3 : World} {v : Value} {a : Nat} (hab : A b.n = a)
    (hown : w3.ownsRow B 105 2 v (st.opn.length + 1) (boxCells A st.opn ++ [ptr a, .int .i64 (colOf b.col)])) (hg : w.grownBy w3 ov.ownBlock) (hat : At w.heap.size ov v) (hb3 : Below B w w3) :
    B ≤ P ∧ P < w3.heap.size ∧ w3.cell? ⟨P, 1, none⟩ = some ov ∧ (∀ j, w3.frozen? ⟨P, j, none⟩ = false) ∧
      Hp (w3.setCell ⟨P, 1, none⟩ v) B (parts E P A KV v pv (Bk.opened b st)) ∧ Below B w (w3.setCell ⟨P, 1, none⟩ v) := by
  subst hab
  have H1 := h.uput (k := .opn) (.row 105 2 v (st.opn.length + 1) (boxCells A st.opn ++ [ptr (A b.n), .int .i64 (colOf b.col)])) rfl hg hown hat
  obtain ⟨hq1, hq2, hqc⟩ := H1.base (k := .par) rfl
  have m3 := H1.ustore (k := .par) 1 v rfl
  refine ⟨hq1, hq2, cell_of hqc rfl, blk_free hqc, m3.same fun j => ?_, hb3.setCell hq1 _⟩
  cases j with
  | par => rfl
  | opn =>
    simp only [parts, Bk.opened, List.length_append, List.length_singleton, boxCells_append, boxCells]
    rfl
  | pls => rfl
  | node i => rfl
  | kid i => rfl
  | ext i => rfl
end
theorem parts_node (E : Nat → Option Part) (P : Nat) (A : Nat → Nat) (KV : Nat → Value) (ov pv : Value) (st : Bk.St) (x : Bk.Nd) {i : Nat} (hi : i < st.ns.length) (hx : x.par = st.ns[i].par) (k : Key) :
    parts E P A KV ov pv { st with ns := st.ns.set i x } k = upd (parts E P A KV ov pv st) (.node i) (.blk (A i) (nodeCells x (KV i)) 75) k := by
  have hk : ∀ j, Bk.kids (st.ns.set i x) j = Bk.kids st.ns j := fun j => Bk.kids_congr (by
    rw [List.map_set, hx]
    refine List.ext_getElem? fun n => ?_
    by_cases hn : i = n
    · subst hn; rw [List.getElem?_set_self (by simpa using hi), List.getElem?_map, List.getElem?_eq_getElem hi]; rfl
    · rw [List.getElem?_set_ne hn]) j
  cases k with
  | par => rfl
  | opn => rfl
  | pls => rfl
  | node j =>
    simp only [parts]
    by_cases hj : j = i
    · subst hj; rw [upd_same, List.getElem?_set_self hi]; rfl
    · rw [upd_other _ _ (by simpa using hj), List.getElem?_set_ne (fun e => hj e.symm)]; rfl
  | kid j =>
    simp only [parts, hk]
    rw [upd_other _ _ (by simp)]
    by_cases hj : j = i
    · subst hj; rw [List.getElem?_set_self hi]; simp only [parts]; rw [List.getElem?_eq_getElem hi]; rfl
    · rw [List.getElem?_set_ne (fun e => hj e.symm)]; rfl
  | ext j => rfl

theorem listed_none {st : Bk.St} {c : UInt8} (h : Bk.listOf st.ns (Bk.last st) c = none) : Bk.listed c st = (Bk.put ⟨some (Bk.last st), 2, 0, [], [], st.line, c⟩ st, st.ns.length) := by
  unfold Bk.listed; rw [h]; rfl
theorem listed_some {st : Bk.St} {c : UInt8} {l : Nat} (h : Bk.listOf st.ns (Bk.last st) c = some l) : Bk.listed c st = (st, l) := by
  unfold Bk.listed; rw [h]
theorem listOf_nil {ns : List Bk.Nd} {L : Nat} {c : UInt8} (h : Bk.kids ns L = []) : Bk.listOf ns L c = none := by unfold Bk.listOf; rw [h]; rfl
theorem listOf_at {ns : List Bk.Nd} {L : Nat} {c : UInt8} {r : List Nat} {j : Nat} (h : Bk.kids ns L = r ++ [j]) (hj : j < ns.length) : Bk.listOf ns L c = if ns[j].kind = 2 ∧ ns[j].sign = c then some j else none := by
  unfold Bk.listOf; rw [h, List.getLast?_concat]; simp only; rw [List.getElem?_eq_getElem hj]
theorem Bk.Ok.put {st : Bk.St} (h : Bk.Ok st) {x : Bk.Nd} (hx : ∀ i, x.par = some i → i < st.ns.length) (hs : st.ns.length + 1 ≤ 1000000000) : Bk.Ok (Bk.put x st) := by
  have hl : (Bk.put x st).ns.length = st.ns.length + 1 := by simp [Bk.put]
  refine ⟨by rw [hl]; omega, fun b hb => by rw [hl]; have := h.opn b hb; omega, fun i hi => by rw [hl]; have := h.para i hi; omega, fun i hi => by rw [hl]; have := h.fence i hi; omega, h.few, by rw [hl]; exact hs, fun j y i hj hi => ?_⟩
  rcases Nat.lt_or_ge j st.ns.length with h1 | h1
  · refine h.root j y i ?_ hi
    simp only [Bk.put] at hj
    rwa [List.getElem?_append_left h1] at hj
  · simp only [Bk.put] at hj
    rw [List.getElem?_append_right h1] at hj
    rcases Nat.eq_zero_or_pos (j - st.ns.length) with h2 | h2
    · rw [h2] at hj
      cases hj
      have := hx i hi; omega
    · rw [List.getElem?_eq_none (by simp; omega)] at hj; cases hj
theorem Bk.listed_ok {st : Bk.St} (h : Bk.Ok st) (hs : st.ns.length + 1 ≤ 1000000000) (c : UInt8) : Bk.Ok (Bk.listed c st).1 ∧ (Bk.listed c st).2 < (Bk.listed c st).1.ns.length ∧ (Bk.listed c st).1.opn = st.opn ∧ (Bk.listed c st).1.ns.length ≤ st.ns.length + 1 := by
  cases hl : Bk.listOf st.ns (Bk.last st) c with
  | none =>
    rw [listed_none hl]
    exact ⟨h.put (fun i hi => by cases hi; exact h.last) hs, by simp [Bk.put], rfl, by simp [Bk.put]⟩
  | some l =>
    rw [listed_some hl]
    refine ⟨h, ?_, rfl, by simp⟩
    unfold Bk.listOf at hl
    split at hl
    · cases hl
    · split at hl
      · cases hl
      · rename_i k _ x hx
        split at hl
        · cases hl; exact (List.getElem?_eq_some_iff.1 hx).1
        · cases hl

set_option maxHeartbeats 4000000 in
set_option maxRecDepth 100000 in
theorem ritemAdd_any (E : Nat → Option Part) (P : Nat) (A : Nat → Nat) (KV : Nat → Value) (ov pv : Value) (st : Bk.St) (w : World) (B : Nat) (h : Hp w B (parts E P A KV ov pv st)) (hok : Bk.Ok st) (hsm : st.ns.length + 5 ≤ 1000000000) (c : UInt8) (n : Nat) :
    Calls Tryz.prog 49 #[ptr P, .int .u8 (c.toNat : Int), .int .i64 (n : Int)] w fun e w' =>
      e = .returned (.tuple #[]) ∧ (∃ A' KV' ov', Hp w' B (parts E P A' KV' ov' pv (Bk.item c n st))) ∧ Below B w w' := by
  obtain ⟨hB, hPw, _, _, hc1, _⟩ := par_facts h
  have ho := h.own (k := .opn) rfl
  obtain ⟨Ad, cc, hov, hlc⟩ := own_shape ho
  rw [hov] at hc1
  have hla := rlast_any E P A KV ov pv st w B h (by have := hok.few; omega)
  have hBs : B ≤ w.heap.size := by omega
  have hL := hok.last
  have hadd := radd_any E P A KV ov pv st w B h hok 2 0 [] []
  have hlist := @listed_none st c
  have hlis2 := @listed_some st c
  obtain ⟨L, hLq⟩ : ∃ L, Bk.last st = L := ⟨_, rfl⟩
  rw [hLq] at hL hla hadd hlist hlis2
  obtain ⟨_, hq, _, _, _, _, hq7⟩ := node_facts h hL
  have hkr := kid_row h hL
  obtain ⟨Ak, ck, hkv, hlk⟩ := own_shape hkr
  rw [hkv] at hq7 hkr
  obtain ⟨q, hqq⟩ : ∃ q, A L = q := ⟨_, rfl⟩
  rw [hqq] at hq hq7 hla
  obtain ⟨R, hR⟩ : ∃ R, Bk.listed c st = R := ⟨_, rfl⟩
  rw [hR] at hlist hlis2
  replace h := Lib.hid h
  replace hov := Lib.hid hov
  replace hkv := Lib.hid hkv
  replace hLq := Lib.hid hLq
  replace hqq := Lib.hid hqq
  replace hR := Lib.hid hR
  have hkc := @listOf_nil st.ns L c
  have hka := @listOf_at st.ns L c
  have hkm := fun k => @Bk.kids_lt L st.ns k
  obtain ⟨ks, hks⟩ : ∃ ks, Bk.kids st.ns L = ks := ⟨_, rfl⟩
  rw [hks] at hkr hlk hkc hka hkm hq7
  obtain ⟨F, hF⟩ : ∃ F, Bk.listOf st.ns L c = F := ⟨_, rfl⟩
  rw [hF] at hlist hlis2 hkc hka
  replace hks := Lib.hid hks
  replace hF := Lib.hid hF
  have hkl : ks.length ≤ st.ns.length := by rw [← hks.out]; exact Bk.kids_len _ _
  obtain ⟨nk, hnk⟩ : ∃ nk, ks.length = nk := ⟨_, rfl⟩
  rw [hnk] at hkr hlk hq7 hkl
  replace hnk := Lib.hid hnk
  go_enter Tryz.func49, Tryz.ntmps49
  go_wp2_with fail
  refine hla.mono ?_
  rintro e w2 ⟨rfl, rfl⟩
  go_upto_region 3 with fail
  go_cut [53] (fun v wx => wx = w ∧ v = .bool F.isSome)
  case first =>
    rcases List.eq_nil_or_concat ks with h0 | ⟨r, j, h0⟩
    · subst h0
      have hFn := hkc rfl
      obtain rfl : nk = 0 := hnk.out.symm
      clear hka hkc hkm hlist hlis2
      subst hFn
      go_wp2_with fail
      go_meet
      case rel => exact ⟨rfl, rfl⟩
    · rw [List.concat_eq_append] at h0
      subst h0
      have hj := hkm j (by simp)
      have hFs := hka rfl hj
      obtain ⟨m, rfl, hm⟩ : ∃ m, nk = m + 1 ∧ m = r.length := ⟨r.length, by rw [← hnk.out]; simp, rfl⟩
      obtain ⟨_, hjl, _, hj0, _, hj6, _⟩ := node_facts h.out hj
      obtain ⟨g, rfl⟩ : ∃ g, Ak = some ⟨g, 0, none⟩ := by
        rcases hkr.2 with ⟨hv, hn⟩ | ⟨g, cap, cur, hv, _⟩
        · omega
        · cases hv; exact ⟨g, rfl⟩
      have hx := own_cell (j := m) (u := ptr (A j)) hkr (by simp [kidCells, hm])
      obtain ⟨X, hX⟩ : ∃ X, st.ns[j] = X := ⟨_, rfl⟩
      rw [hX] at hFs hj0 hj6
      obtain ⟨aj, haj⟩ : ∃ aj, A j = aj := ⟨_, rfl⟩
      rw [haj] at hj0 hj6 hjl hx
      clear hka hkc hkm hlist hlis2
      by_cases hk2 : X.kind = 2
      · have t2 : ((X.kind : Int) == 2) = true := by rw [beq_iff_eq]; omega
        by_cases hsg : X.sign = c
        · have t3 := byte_same hsg
          rw [if_pos ⟨hk2, hsg⟩] at hFs
          subst hFs
          clear hk2 hsg haj hX hm
          go_wp2_with fail
          go_meet
          case rel => exact ⟨rfl, rfl⟩
        · have t3 := byte_diff hsg
          rw [if_neg (fun h => hsg h.2)] at hFs
          subst hFs
          clear hk2 hsg haj hX hm
          go_wp2_with fail
          go_meet
          case rel => exact ⟨rfl, rfl⟩
      · have t2 : ((X.kind : Int) == 2) = false := by rw [beq_eq_false_iff_ne]; omega
        rw [if_neg (fun h => hk2 h.1)] at hFs
        subst hFs
        clear hk2 haj hX hm
        go_wp2_with fail
        go_meet
        case rel => exact ⟨rfl, rfl⟩
  case rest =>
    obtain ⟨rfl, rfl⟩ := hcut
    obtain ⟨w0, hw0⟩ : ∃ w0, w0 = wc := ⟨wc, rfl⟩
    subst hw0
    go_upto_if 53 with fail
    go_cut [7] (fun v wx => ∃ A1 KV1, v = ptr (A1 R.2) ∧ Hp wx B (parts E P A1 KV1 ov pv R.1) ∧ Below B w0 wx)
    case first =>
      cases F with
      | none =>
        have hRn := hlist rfl
        clear hka hkc hkm hlist hlis2
        have hokp : Bk.Ok (Bk.put ⟨some L, 2, 0, [], [], st.line, 0⟩ st) := hok.put (fun i hi => by cases hi; exact hL) (by omega)
        have hnl : (Bk.put ⟨some L, 2, 0, [], [], st.line, 0⟩ st).ns.length = st.ns.length + 1 := by simp [Bk.put]
        have hst : Bk.add 2 0 [] [] 0 st = Bk.put ⟨some L, 2, 0, [], [], st.line, 0⟩ st := by unfold Bk.add Bk.put; rw [hLq.out]
        rw [hst] at hadd
        go_wp2_with fail
        refine hadd.mono ?_
        rintro e w2 ⟨a, kv, rfl, H2, hb2⟩
        obtain ⟨_, n1, n2, _, _, n6, _⟩ := node_facts H2 (i := st.ns.length) (by rw [hnl]; omega)
        rw [more_at] at n1 n2 n6
        replace H2 := Lib.hid H2
        replace hb2 := Lib.hid hb2
        replace hst := Lib.hid hst
        go_wp2_with fail
        go_meet
        case rel =>
          rw [hRn]
          refine ⟨more A st.ns.length a, more (more KV L kv) st.ns.length (.slice none 0 0), by rw [more_at], ?_, hb2.out.setCell (show B ≤ a from by have := (node_facts H2.out (i := st.ns.length) (by rw [hnl]; omega)).1; rwa [more_at] at this) _⟩
          have hpn := parts_node E P (more A st.ns.length a) (more (more KV L kv) st.ns.length (.slice none 0 0)) ov pv (Bk.put ⟨some L, 2, 0, [], [], st.line, 0⟩ st) ⟨some L, 2, 0, [], [], st.line, c⟩ (i := st.ns.length) (by rw [hnl]; omega) (by simp [Bk.put])
          have m1 := H2.out.ustore (k := .node st.ns.length) 6 (.int .u8 (c.toNat : Int)) (by simp only [parts, Bk.put, List.getElem?_append_right (Nat.le_refl _), Nat.sub_self]; rfl)
          rw [more_at, more_at] at m1
          refine m1.same fun k => ?_
          have hp := hpn k
          rw [more_at, more_at] at hp
          simp only [Bk.put, List.set_append_right _ _ (Nat.le_refl _), Nat.sub_self, List.set_cons_zero] at hp ⊢
          exact hp
      | some l =>
        have hRs := hlis2 rfl
        rcases List.eq_nil_or_concat ks with h0 | ⟨r, j, h0⟩
        · exact absurd (hkc h0) (by simp)
        · rw [List.concat_eq_append] at h0
          subst h0
          have hj := hkm j (by simp)
          have hFs := hka rfl hj
          obtain ⟨m, rfl, hm⟩ : ∃ m, nk = m + 1 ∧ m = r.length := ⟨r.length, by rw [← hnk.out]; simp, rfl⟩
          obtain rfl : l = j := by
            split at hFs
            · cases hFs; rfl
            · cases hFs
          obtain ⟨g, rfl⟩ : ∃ g, Ak = some ⟨g, 0, none⟩ := by
            rcases hkr.2 with ⟨hv, hn⟩ | ⟨g, cap, cur, hv, _⟩
            · omega
            · cases hv; exact ⟨g, rfl⟩
          have hx := own_cell (j := m) (u := ptr (A l)) hkr (by simp [kidCells, hm])
          clear hka hkc hkm hlist hlis2 hFs hm
          go_wp2_with fail
          go_meet
          case rel =>
            rw [hRs]
            exact ⟨A, KV, rfl, h.out, Below.refl _ _⟩
    case rest =>
      obtain ⟨A1, KV1, rfl, H1, hb1⟩ := hcut
      have hlok := Bk.listed_ok hok (by omega) c
      have hie := Bk.item_eq c n st
      rw [hR.out] at hlok hie
      obtain ⟨st1, l1⟩ := R
      simp only at H1 hlok hie ⊢
      obtain ⟨hok1, hl1, hop1, hnl1⟩ := hlok
      obtain ⟨_, hP1, _, _, hd1, _, _, _, _, _, _, hd8, _⟩ := par_facts H1
      obtain ⟨_, hq1, _, _, _, _, hq17⟩ := node_facts H1 hl1
      have hkr1 := kid_row H1 hl1
      obtain ⟨Ak1, ck1, hkv1, hlk1⟩ := own_shape hkr1
      rw [hkv1] at hq17 hkr1
      have hkl1 := Bk.kids_len st1.ns l1
      obtain ⟨q1, hqq1⟩ : ∃ q1, A1 l1 = q1 := ⟨_, rfl⟩
      rw [hqq1] at hq1 hq17 ⊢
      obtain ⟨nk1, hnk1⟩ : ∃ nk1, (Bk.kids st1.ns l1).length = nk1 := ⟨_, rfl⟩
      rw [hnk1] at hq17 hkr1 hkl1 hlk1 hkv1
      rw [hov.out] at hd1
      have hown1 := fun o => hkr1.alloc o
      have hsz1 : B ≤ wc.heap.size := by have := hb1.size; omega
      have hns1 : nk1 ≤ 1000000000 := by omega
      have hfew := hok.few
      have hput := fun w2 w3 a kv => @put_done wc B P E A1 KV1 ov pv st1 H1 hok1 ⟨some l1, 3, 0, [], [], st1.line, 0⟩ l1 rfl hl1 w2 w3 a kv
      rw [hnk1, hkv1, hqq1] at hput
      replace hput := Lib.hid hput
      replace H1 := Lib.hid H1
      replace hie := Lib.hid hie
      replace hqq1 := Lib.hid hqq1
      replace hnk1 := Lib.hid hnk1
      replace hkv1 := Lib.hid hkv1
      replace hb1 := Lib.hid hb1
      clear hkc hka hkm hlist hlis2 hadd hla hq7 hc1 hkr
      go_wp2_with first
      | (
        at_builtin
        refine wpList_app_two rfl (.tmp 80) (.tmp 82) rfl nodeEI rfl (hown1 _) rfl (by simp) rfl (by intro u hu; simp at hu; subst hu; rfl) (by omega) (by omega) (by simp; omega) ?_
        intro kv' w3 hown3 hg3 hb3 hat3
        obtain ⟨Ad3, c3, rfl, hlc3⟩ := own_shape hown3
        obtain ⟨hz1, hz2, hz3, hz4, H2, hb4⟩ := hput.out _ _ _ _ (ext_alloc wc _) (Nat.le_refl _) (heap_alloc_new wc _) hown3 hg3.out hat3.out hb3
        obtain ⟨_, hP4, _, _, hd41, _⟩ := par_facts H2
        have ho4 := H2.own (k := .opn) rfl
        simp only [Bk.put] at ho4
        rw [hop1] at ho4
        rw [hov.out] at hd41 ho4
        have hop5 := fun w5 v => @opened_done _ B P E _ _ ov pv _ H2 ⟨st1.ns.length, some n⟩ w5 v _ (more_at A1 st1.ns.length wc.heap.size)
        simp only [Bk.put] at hop5
        rw [hop1, hov.out] at hop5
        replace hop5 := Lib.hid hop5
        replace ho4 := Lib.hid ho4
        replace H2 := Lib.hid H2
        replace hb4 := Lib.hid hb4)
      | (
        at_builtin
        refine wpList_app_two rfl (.tmp 90) (.tmp 94) rfl boxEI rfl ho4.out rfl (by simp) rfl (by intro u hu; simp at hu; rcases hu with rfl | rfl <;> rfl) (by omega) (by omega) (by omega) ?_
        intro ov' w5 hown5 hg5 hb5 hat5
        obtain ⟨Ad5, c5, rfl, hlc5⟩ := own_shape hown5
        obtain ⟨y1, y2, y3, y4, H5, hb6⟩ := hop5.out _ _ hown5 hg5.out hat5.out hb5
        replace H5 := Lib.hid H5
        replace hb6 := Lib.hid hb6)
      go_returns
      have hres := H5.out
      have hie2 := hie.out
      simp only [Bk.put, Bk.opened, hop1] at hres hie2
      rw [← hie2] at hres
      exact ⟨rfl, ⟨_, _, _, hres⟩, (hb1.out.trans hb4.out).trans hb6.out⟩
end Go.Proofs.YtmbcddehacfpgaaGreatDoor

namespace Go.Proofs.YtmbcddehacfpgaaGreatDoor
open Go.RowKit

theorem quote_len {l q : List UInt8} (h : Lf.quote l = some q) : q.length ≤ l.length + 3 := by
  unfold Lf.quote at h
  have hr : (Fn.rs l).length ≤ l.length := by unfold Fn.rs; rw [List.length_drop]; omega
  split at h
  · cases h
  · rename_i c r hrs
    rw [hrs, List.length_cons] at hr
    split at h
    · cases h
      have := Cl.strip_len 1 r
      omega
    · cases h
/-- what is left to take, from a container on -/
def Bk.takeFrom (l : List Bk.Box) (i : Nat) (s : List UInt8) : Nat × List UInt8 := ((Bk.take (l.drop i) s).1 + i, (Bk.take (l.drop i) s).2)
theorem takeFrom_zero (l : List Bk.Box) (s : List UInt8) : Bk.takeFrom l 0 s = Bk.take l s := by simp [Bk.takeFrom]
theorem takeFrom_end {l : List Bk.Box} {i : Nat} (h : ¬ i < l.length) (s : List UInt8) : Bk.takeFrom l i s = (i, s) := by
  unfold Bk.takeFrom; rw [List.drop_eq_nil_of_le (by omega)]; simp [Bk.take]
theorem takeFrom_at {l : List Bk.Box} {i : Nat} (h : i < l.length) (s : List UInt8) : Bk.takeFrom l i s =
    match l[i].col with
    | none => match Lf.quote s with
      | none => (i, s)
      | some q => Bk.takeFrom l (i + 1) q
    | some n => if Fn.emp s = true then Bk.takeFrom l (i + 1) s else if Fn.cl s < n then (i, s) else Bk.takeFrom l (i + 1) (Cl.strip n s) := by
  unfold Bk.takeFrom
  rw [List.drop_eq_getElem_cons h, Bk.take]
  cases l[i].col with
  | none =>
    cases Lf.quote s with
    | none => simp
    | some q => simp only; rw [Nat.add_assoc, Nat.add_comm 1 i]
  | some n =>
    simp only
    split
    · rw [Nat.add_assoc, Nat.add_comm 1 i]
    · split
      · simp
      · rw [Nat.add_assoc, Nat.add_comm 1 i]

theorem ret_take {p : Nat × List UInt8} {k : Nat} {s : List UInt8} (h : Hid (p = (k, s))) : Ending.returned (.tuple #[.int .i64 (k : Int), .string (bs s)]) = .returned (.tuple #[.int .i64 (p.1 : Int), .string (bs p.2)]) := by
  rw [h.out]

set_option maxHeartbeats 4000000 in
set_option maxRecDepth 100000 in
theorem rtake_any (E : Nat → Option Part) (P : Nat) (A : Nat → Nat) (KV : Nat → Value) (ov pv : Value) (st : Bk.St) (w : World) (B : Nat) (h : Hp w B (parts E P A KV ov pv st)) (hok : Bk.Ok st) (l : List UInt8) (hl : l.length + 1000 ≤ 140737488355328) :
    Calls Tryz.prog 42 #[ptr P, .string (bs l)] w fun e w' =>
      e = .returned (.tuple #[.int .i64 ((Bk.take st.opn l).1 : Int), .string (bs (Bk.take st.opn l).2)]) ∧ Below w.heap.size w w' := by
  obtain ⟨hB, hPw, _, _, hc1, _⟩ := par_facts h
  have ho := h.own (k := .opn) rfl
  obtain ⟨Ad, cc, hov, hlc⟩ := own_shape ho
  rw [hov] at hc1 ho
  have hfew := hok.few
  obtain ⟨T, hT⟩ : ∃ T, Bk.take st.opn l = T := ⟨_, rfl⟩
  rw [hT]
  have hT0 := Lib.hid ((takeFrom_zero st.opn l).trans hT)
  clear hT
  obtain ⟨bx, hbx⟩ : ∃ bx, st.opn = bx := ⟨_, rfl⟩
  rw [hbx] at ho hc1 hlc hfew hT0
  have hP := Lib.hid (fun wr (hb : Below w.heap.size w wr) => (par_facts (h.ext hb)).2.2.2.2.1)
  rw [hov, hbx] at hP
  have ho' := Lib.hid (fun wr (hb : Below w.heap.size w wr) => own_below ho hb)
  clear h ho hov hbx
  go_enter Tryz.func42, Tryz.ntmps42
  go_wp2_with fail
  go_loopw [1, 17] (fun u v wr => ∃ (s : List UInt8) (i : Nat), i ≤ bx.length ∧ s.length ≤ l.length + 3 * i ∧ u = .string (bs s) ∧ v = .int .i64 (i : Int) ∧ Hid (Bk.takeFrom bx i s = T) ∧ Below w.heap.size w wr) (fun _ v _ => bx.length - (intOf v).toNat)
  case atStart => exact ⟨l, 0, by omega, by omega, rfl, rfl, hT0, Below.refl _ _⟩
  case round =>
    obtain ⟨s, i, hi, hsl, rfl, rfl, hf, hb⟩ := hrel
    rcases Nat.lt_or_eq_of_le hi with hlt | rfl
    · have hor := ho'.out wr hb
      obtain ⟨g, rfl⟩ : ∃ g, Ad = some ⟨g, 0, none⟩ := by
        rcases hor.2 with ⟨hv, hn⟩ | ⟨g, cap, cur, hv, _⟩
        · omega
        · cases hv; exact ⟨g, rfl⟩
      have hat := boxCells_at A hlt
      have hx0 := own_cell hor hat.1
      have hx1 := own_cell hor hat.2
      have hft := takeFrom_at hlt s
      rw [hf.out] at hft
      have hgl : g < wr.heap.size := (World.ownsRow.lt hor g rfl).2
      have hba := fun o => ext_trans hb (ext_alloc wr o)
      replace hb := Lib.hid hb
      replace hba := Lib.hid hba
      replace hor := Lib.hid hor
      have hq := fun w => rquote_any s w (by omega)
      have hem := fun w => rempty_any s w (by omega)
      have hemE : decide ((Cl.lead Cl.inf s 0).2 = s.length) = Fn.emp s := rfl
      rw [hemE] at hem
      have hin := fun w => rindent_any s w (by omega)
      have hcl : Fn.cl s = (Cl.lead Cl.inf s 0).1 := rfl
      rw [← hcl] at hin
      obtain ⟨K, hK⟩ : ∃ K, (Cl.lead Cl.inf s 0).2 = K := ⟨_, rfl⟩
      rw [hK] at hin
      clear hemE hcl hK hat hf
      obtain ⟨bb, hbb⟩ : ∃ bb, bx[i] = bb := ⟨_, rfl⟩
      rw [hbb] at hx0 hx1 hft
      clear hbb
      obtain ⟨bn, bc⟩ := bb
      simp only at hx0 hx1 hft
      cases bc with
      | none =>
        simp only [colOf] at hx1 hft
        cases hqs : Lf.quote s with
        | none =>
          rw [hqs] at hq hft
          replace hq : ∀ w, Calls Tryz.prog 45 #[.string (bs s)] w fun e w' => e = .returned (.tuple #[.string ⟨#[]⟩, .bool false]) ∧ w = w' := hq
          replace hft := Lib.hid hft
          go_wp2_with fail
          refine (hq _).mono ?_
          rintro e w1 ⟨rfl, rfl⟩
          go_wp2_with fail
          go_returns
          exact ⟨ret_take hft, (hba.out _)⟩
        | some q =>
          have hql := quote_len hqs
          rw [hqs] at hq hft
          replace hq : ∀ w, Calls Tryz.prog 45 #[.string (bs s)] w fun e w' => e = .returned (.tuple #[.string (bs q), .bool true]) ∧ w = w' := hq
          replace hft := Lib.hid hft.symm
          go_wp2_with fail
          refine (hq _).mono ?_
          rintro e w1 ⟨rfl, rfl⟩
          go_wp2_with fail
          go_roundw
          case rel => exact ⟨q, i + 1, by omega, by omega, rfl, by go_num, hft, hba.out _⟩
          case measure => simp [intOf]; omega
      | some n =>
        simp only [colOf] at hx1 hft
        cases hE : Fn.emp s with
        | true =>
          rw [hE] at hem
          rw [hE, if_pos rfl] at hft
          replace hft := Lib.hid hft.symm
          go_wp2_with fail
          refine (hem _).mono ?_
          rintro e w1 ⟨rfl, rfl⟩
          go_wp2_with fail
          go_roundw
          case rel => exact ⟨s, i + 1, by omega, by omega, rfl, by go_num, hft, hba.out _⟩
          case measure => simp [intOf]; omega
        | false =>
          rw [hE] at hem
          rw [hE, if_neg (by simp)] at hft
          have hst := fun w => rstrip_any s (n : Int) w (by omega)
          have hstl := Cl.strip_len (n : Int) s
          by_cases hcn : Fn.cl s < n
          · rw [if_pos hcn] at hft
            replace hft := Lib.hid hft
            have hd : decide ((Fn.cl s : Int) < (n : Int)) = true := by simp; omega
            go_wp2_with fail
            refine (hem _).mono ?_
            rintro e w1 ⟨rfl, rfl⟩
            go_wp2_with fail
            refine (hin _).mono ?_
            rintro e w1 ⟨rfl, rfl⟩
            go_wp2_with fail
            go_returns
            exact ⟨ret_take hft, (hba.out _)⟩
          · rw [if_neg hcn] at hft
            replace hft := Lib.hid hft.symm
            have hd : decide ((Fn.cl s : Int) < (n : Int)) = false := by simp; omega
            obtain ⟨S, hS⟩ : ∃ S, Cl.strip (n : Int) s = S := ⟨_, rfl⟩
            rw [hS] at hft hst hstl
            clear hS
            go_wp2_with fail
            refine (hem _).mono ?_
            rintro e w1 ⟨rfl, rfl⟩
            go_wp2_with fail
            refine (hin _).mono ?_
            rintro e w1 ⟨rfl, rfl⟩
            go_wp2_with fail
            refine (hst _).mono ?_
            rintro e w1 ⟨rfl, rfl⟩
            go_wp2_with fail
            go_roundw
            case rel => exact ⟨S, i + 1, by omega, by omega, rfl, by go_num, hft, hba.out _⟩
            case measure => simp [intOf]; omega
    · have hft := Lib.hid (hf.out.symm.trans (takeFrom_end (Nat.lt_irrefl _) s))
      have hp1 := hP.out wr hb
      have hPr : P < wr.heap.size := by have := hb.size; omega
      replace hb := Lib.hid hb
      go_wp2_with fail
      go_returns
      exact ⟨ret_take hft, hb.out⟩
end Go.Proofs.YtmbcddehacfpgaaGreatDoor
