/- The program's reader of blocks, as it lies in memory: a row of containers, each with the row of its closed blocks, which it alone may write; what is closed stays as it is. The program's reader of blocks in memory: rows that stay as they are from now on; a block more; a container that is closed. The program's reader of blocks: a block more in a container. The program's reader of blocks: an item more in a container: of the last list, or of a new one. The program's reader of blocks: an item that begins a new list. -/
import Derived.Test.YtmmgfoepfapnkaaGreatDoorQ07
import Derived.Test.YtmmgfoepfapnkaaGreatDoorQ02
import Derived.Test.YtmmgfoepfapnkaaGreatDoorQ06
import Derived.StillTailTactics
import Derived.Deep.CutBlock
import Derived.Deep.DeepCutAuto
import Derived.Test.YtmmgfoepfapnkaaGreatDoorQ03
namespace Go.Proofs.YtmmgfoepfapnkaaGreatDoor
open Go.RowKit
attribute [local go_sem] canOp readsAs readUpon

abbrev Mm := Nat → Option Part
abbrev adr (a : Nat) : Value := .pointer (some ⟨a, 0, none⟩)
def RowM (M : Mm) (A : Option Addr) (n : Nat) (xs : List Value) : Prop :=
  xs.length = n * 6 ∧ (0 < n → ∃ b cur, A = some ⟨b, 0, none⟩ ∧ M b = some (.blk b cur 149) ∧ cur.toList.take (n * 6) = xs)
mutual
/-- a tree's cells, its rows in blocks that stay as they are -/
def TM (M : Mm) : Bk.Tree → List Value → Prop
  | .mk kd lv t inf ln ks, cs => ∃ A c css, cs = [.int .i64 (kd : Int), .int .i64 (lv : Int), .string (bs t), .string (bs inf), .int .i64 (ln : Int), .slice A ks.length c] ∧ ks.length ≤ c ∧ RowM M A ks.length css.flatten ∧ TMs M ks css
def TMs (M : Mm) : List Bk.Tree → List (List Value) → Prop
  | [], css => css = []
  | t :: ts, css => ∃ c0 cr, css = c0 :: cr ∧ TM M t c0 ∧ TMs M ts cr
end
theorem RowM.mono {M M' : Mm} (hm : ∀ b a, M b = some a → M' b = some a) {A : Option Addr} {n : Nat} {xs : List Value} (h : RowM M A n xs) : RowM M' A n xs := by
  refine ⟨h.1, fun hn => ?_⟩
  obtain ⟨b, cur, h1, h2, h3⟩ := h.2 hn
  exact ⟨b, cur, h1, hm _ _ h2, h3⟩
mutual
theorem TM_mono {M M' : Mm} (hm : ∀ b a, M b = some a → M' b = some a) : ∀ {t : Bk.Tree} {cs : List Value}, TM M t cs → TM M' t cs
  | .mk .., _, h => by
    unfold TM at h ⊢
    obtain ⟨A, c, css, h1, h2, h3, h4⟩ := h
    exact ⟨A, c, css, h1, h2, h3.mono hm, TMs_mono hm h4⟩
theorem TMs_mono {M M' : Mm} (hm : ∀ b a, M b = some a → M' b = some a) : ∀ {ts : List Bk.Tree} {css : List (List Value)}, TMs M ts css → TMs M' ts css
  | [], _, h => by unfold TMs at h ⊢; exact h
  | _ :: _, _, h => by
    unfold TMs at h ⊢
    obtain ⟨c0, cr, h1, h2, h3⟩ := h
    exact ⟨c0, cr, h1, TM_mono hm h2, TMs_mono hm h3⟩
end
theorem TMs_nil {M : Mm} : TMs M [] [] := by unfold TMs; rfl
theorem TMs_snoc {M : Mm} {ts : List Bk.Tree} {css : List (List Value)} {t : Bk.Tree} {cs : List Value} (h : TMs M ts css) (h2 : TM M t cs) : TMs M (ts ++ [t]) (css ++ [cs]) := by
  induction ts generalizing css with
  | nil =>
    unfold TMs at h
    subst h
    rw [List.nil_append, List.nil_append]
    unfold TMs
    exact ⟨cs, [], rfl, h2, TMs_nil⟩
  | cons x r ih =>
    unfold TMs at h
    obtain ⟨c0, cr, rfl, h3, h4⟩ := h
    rw [List.cons_append, List.cons_append]
    unfold TMs
    exact ⟨c0, cr ++ [cs], rfl, h3, ih h4⟩
theorem TM_form {M : Mm} {t : Bk.Tree} {cs : List Value} (h : TM M t cs) : ∃ (a b e : Int) (c d : List UInt8) (A : Option Addr) (n k : Nat), cs = [.int .i64 a, .int .i64 b, .string (bs c), .string (bs d), .int .i64 e, .slice A n k] := by
  cases t with
  | mk kd lv tx inf ln ks =>
    unfold TM at h
    obtain ⟨A, c, css, rfl, _⟩ := h
    exact ⟨_, _, _, _, _, _, _, _, rfl⟩
theorem TMs_len {M : Mm} : ∀ {ts : List Bk.Tree} {css : List (List Value)}, TMs M ts css → css.flatten.length = ts.length * 6
  | [], _, h => by unfold TMs at h; rw [h]; rfl
  | t :: ts, _, h => by
    unfold TMs at h
    obtain ⟨c0, cr, rfl, h2, h3⟩ := h
    obtain ⟨_, _, _, _, _, _, _, _, rfl⟩ := TM_form h2
    have := TMs_len h3
    simp only [List.flatten_cons, List.length_append, List.length_cons, List.length_nil, this]; omega
/-- a container, and where its rows lie -/
structure MC where
  c : Pb.Cn
  kv : Value
  css : List (List Value)
  lv : Value
  iss : List (List Value)
def MC.Good (M : Mm) (x : MC) : Prop := TMs M x.c.kids x.css ∧ ∀ s ln is, x.c.lst = some (s, ln, is) → TMs M is x.iss
theorem MC.Good.mono {M M' : Mm} (hm : ∀ b a, M b = some a → M' b = some a) {x : MC} (h : x.Good M) : x.Good M' := ⟨TMs_mono hm h.1, fun s ln is e => TMs_mono hm (h.2 s ln is e)⟩
inductive PKey
  | rd | row | kid (i : Nat) | itm (i : Nat) | lns | pls | old (b : Nat) | ext (i : Nat)
deriving DecidableEq
/-- the cells of the last list -/
def lstCells (lv : Value) : Option (UInt8 × Nat × List Bk.Tree) → List Value
  | none => []
  | some (_, ln, _) => [.int .i64 2, .int .i64 0, .string ⟨#[]⟩, .string ⟨#[]⟩, .int .i64 (ln : Int), lv]
def contCells (x : MC) : List Value :=
  [.int .i64 (x.c.kind : Int), .int .i64 0, .string ⟨#[]⟩, .string ⟨#[]⟩, .int .i64 (x.c.line : Int), x.kv, .int .u8 (x.c.sign.toNat : Int), .int .i64 (x.c.col : Int), .int .u8 (x.c.listSign.toNat : Int)]
def rowCells : List MC → List Value
  | [] => []
  | x :: o => rowCells o ++ contCells x
def opCells (f : Fn.Op) : List Value := [.int .u8 (f.c.toNat : Int), .int .i64 (f.n : Int), .int .i64 (f.ind : Int), .string (bs f.info)]
def leafCells (lv : Value) (l : Pb.Of) : List Value := [.int .i64 (l.kind : Int), .int .i64 (l.line : Int), lv] ++ opCells l.op ++ [.bool l.ended]
def rdCells (rv lv pv : Value) (l : Pb.Of) : List Value := rv :: leafCells lv l ++ [pv]
def plcCells : List Bk.Pl → List Value
  | [] => []
  | p :: r => .int .i64 (p.line : Int) :: .int .u8 (p.op.c.toNat : Int) :: .int .i64 (p.op.n : Int) :: .int .i64 (p.op.ind : Int) :: .string (bs p.op.info) :: .int .i64 (p.first : Int) :: .int .i64 (p.last : Int) :: .bool p.closed :: plcCells r
theorem plcCells_append (a b : List Bk.Pl) : plcCells (a ++ b) = plcCells a ++ plcCells b := by
  induction a with
  | nil => rfl
  | cons x r ih => simp [plcCells, ih]
/-- the container of a level, the outermost's being 0 -/
def lev : List MC → Nat → Option MC
  | [], _ => none
  | x :: o, i => if i = o.length then some x else lev o i
def kidRow (x : MC) : Part := .row 149 6 x.kv x.c.all.length (x.css.flatten ++ lstCells x.lv x.c.lst)
def itmRow (x : MC) : Option Part := x.c.lst.map fun t => .row 149 6 x.lv t.2.2.length x.iss.flatten
def pparts (E : Nat → Option Part) (R : Nat) (rv lv pv : Value) (M : Mm) (row : List MC) (l : Pb.Of) (ps : List Bk.Pl) : PKey → Option Part
  | .rd => some (.blk R ⟨rdCells rv lv pv l⟩ 138)
  | .row => some (.row 167 9 rv row.length (rowCells row))
  | .kid i => (lev row i).map kidRow
  | .itm i => (lev row i).bind itmRow
  | .lns => some (.row 9 1 lv l.lines.length (scells l.lines))
  | .pls => some (.row 107 8 pv ps.length (plcCells ps))
  | .old b => M b
  | .ext i => E i
theorem rowCells_len (row : List MC) : (rowCells row).length = row.length * 9 := by
  induction row with
  | nil => rfl
  | cons x o ih => simp only [rowCells, List.length_append, ih, contCells, List.length_cons, List.length_nil]; omega
theorem lev_none {row : List MC} {i : Nat} (h : row.length ≤ i) : lev row i = none := by
  induction row with
  | nil => rfl
  | cons x o ih => simp only [List.length_cons] at h; rw [lev, if_neg (by omega)]; exact ih (by omega)
theorem lev_top (x : MC) (o : List MC) : lev (x :: o) o.length = some x := by rw [lev, if_pos rfl]
theorem lev_low (x y : MC) (o : List MC) {i : Nat} (h : i ≠ o.length) : lev (x :: o) i = lev (y :: o) i := by rw [lev, lev, if_neg h, if_neg h]
theorem lev_one (x : MC) (o : List MC) {i : Nat} (h : i ≠ o.length) : lev (x :: o) i = lev o i := by rw [lev, if_neg h]
/-- all that is read is there, and lies in memory -/
structure PAt (w : World) (B : Nat) (E : Nat → Option Part) (R : Nat) (rv lv pv : Value) (M : Mm) (row : List MC) (l : Pb.Of) (ps : List Bk.Pl) : Prop where
  hp : Hp w B (pparts E R rv lv pv M row l ps)
  good : ∀ x ∈ row, x.Good M
  old : ∀ b a, M b = some a → ∃ cur, a = .blk b cur 149
def PS (w : World) (B : Nat) (E : Nat → Option Part) (R : Nat) (r : Pb.Rd) : Prop := ∃ rv lv pv M row, row.map (·.c) = r.row ∧ PAt w B E R rv lv pv M row r.leaf r.places
theorem pblockEI : EI Tryz.prog 147 149 6 80 := EI.mk' (z := .agg #[.int .i64 0, .int .i64 0, .string ⟨#[]⟩, .string ⟨#[]⟩, .int .i64 0, .slice none 0 0]) Tryz.underlying147 (by kernel_rfl) rfl (by omega)

/-- parts under other keys; a row that stays as it is becomes a block -/
theorem Hp.turn {K K' : Type} {w : World} {B : Nat} {m : K → Option Part} (h : Hp w B m) {m' : K' → Option Part} (f : K' → K) (hf : ∀ i j a b, m' i = some a → m' j = some b → f i = f j → i = j)
    (hm : ∀ k a, m' k = some a → ∃ a0, m (f k) = some a0 ∧ a.holds w B ∧ ∀ g, a.block = some g → a0.block = some g) : Hp w B m' := by
  refine ⟨fun k a ha => ?_, fun i j a b g hi hj ha hb => ?_⟩
  · obtain ⟨_, _, h1, _⟩ := hm k a ha
    exact h1
  · obtain ⟨a0, e1, _, e2⟩ := hm i a hi
    obtain ⟨b0, f1, _, f2⟩ := hm j b hj
    exact hf i j a b hi hj (h.apart _ _ _ _ g e1 f1 (e2 g ha) (f2 g hb))
/-- a row's block -/
theorem own_block {w : World} {B : Nat} {e : TypeId} {size n : Nat} {v : Value} {xs : List Value} (h : w.ownsRow B e size v n xs) (hn : 0 < n) : ∃ g c cur, v = .slice (some ⟨g, 0, none⟩) n c ∧ n ≤ c ∧ B ≤ g ∧ w.heap[g]? = some (.cells cur e (0, 0)) ∧ cur.toList.take (n * size) = xs := by
  rcases h.2 with ⟨_, h0⟩ | ⟨g, cap, cur, hv, hb, hg, hc, _, _, ht⟩
  · omega
  · exact ⟨g, cap, cur, hv, hc, hb, hg, ht⟩
section
variable {w : World} {B R : Nat} {E : Nat → Option Part} {rv lv pv : Value} {M : Mm} {row : List MC} {l : Pb.Of} {ps : List Bk.Pl}
theorem rd_facts (h : PAt w B E R rv lv pv M row l ps) : B ≤ R ∧ R < w.heap.size ∧ (∀ j, w.frozen? ⟨R, j, none⟩ = false) ∧ w.cell? ⟨R, 0, none⟩ = some rv ∧ w.cell? ⟨R, 1, none⟩ = some (.int .i64 (l.kind : Int)) ∧
    w.cell? ⟨R, 2, none⟩ = some (.int .i64 (l.line : Int)) ∧ w.cell? ⟨R, 3, none⟩ = some lv ∧ w.cell? ⟨R, 4, none⟩ = some (.int .u8 (l.op.c.toNat : Int)) ∧ w.cell? ⟨R, 5, none⟩ = some (.int .i64 (l.op.n : Int)) ∧
    w.cell? ⟨R, 6, none⟩ = some (.int .i64 (l.op.ind : Int)) ∧ w.cell? ⟨R, 7, none⟩ = some (.string (bs l.op.info)) ∧ w.cell? ⟨R, 8, none⟩ = some (.bool l.ended) ∧ w.cell? ⟨R, 9, none⟩ = some pv := by
  obtain ⟨h1, h2, h3⟩ := h.hp.base (k := .rd) rfl
  exact ⟨h1, h2, blk_free h3, cell_of h3 rfl, cell_of h3 rfl, cell_of h3 rfl, cell_of h3 rfl, cell_of h3 rfl, cell_of h3 rfl, cell_of h3 rfl, cell_of h3 rfl, cell_of h3 rfl, cell_of h3 rfl⟩
/-- the row of containers, not empty -/
theorem row_facts {x : MC} {o : List MC} (h : PAt w B E R rv lv pv M (x :: o) l ps) : ∃ g c, rv = .slice (some ⟨g, 0, none⟩) (o.length + 1) c ∧ o.length + 1 ≤ c ∧ g ≠ R ∧ B ≤ g ∧ g < w.heap.size ∧ (∀ j, w.frozen? ⟨g, j, none⟩ = false) ∧
    (∀ j u, (contCells x)[j]? = some u → w.cell? ⟨g, o.length * 9 + j, none⟩ = some u) := by
  have ho := h.hp.own (k := .row) rfl
  obtain ⟨g, c, cur, rfl, hc, hB, hg, _⟩ := own_block ho (by simp)
  refine ⟨g, c, rfl, hc, ?_, hB, (Array.getElem?_eq_some_iff.1 hg).1, World.ownsRow.frozenAt ho, fun j u hj => ?_⟩
  · intro e
    have := h.hp.apart .rd .row _ _ R rfl rfl rfl (by rw [← e]; rfl)
    cases this
  · refine own_cell ho ?_
    rw [rowCells, List.getElem?_append_right (by rw [rowCells_len]; omega), rowCells_len, Nat.add_sub_cancel_left]
    exact hj
end
end Go.Proofs.YtmmgfoepfapnkaaGreatDoor

namespace Go.Proofs.YtmmgfoepfapnkaaGreatDoor
open Go.RowKit

/-- a part is taken away; M' stays as it is -/
def gone (m : PKey → Option Part) (M' : Mm) (k : PKey) : PKey → Option Part
  | .old b => M' b
  | j => if j = k then none else m j
theorem gone_ne {m : PKey → Option Part} {M' : Mm} {k j : PKey} (h : ∀ b, j ≠ .old b) (hjk : j ≠ k) : gone m M' k j = m j := by
  cases j with
  | old b => exact absurd rfl (h b)
  | _ => exact if_neg hjk
theorem gone_at {m : PKey → Option Part} {M' : Mm} {k : PKey} (h : ∀ b, k ≠ .old b) : gone m M' k k = none := by
  cases k with
  | old b => exact absurd rfl (h b)
  | _ => simp [gone]
section
variable {w w' : World} {B R : Nat} {E : Nat → Option Part} {rv lv pv : Value} {M : Mm} {x : MC} {o : List MC} {l : Pb.Of} {ps : List Bk.Pl}
/-- a row that nobody writes any more -/
theorem retire {m : PKey → Option Part} (h : Hp w B m) {k : PKey} {n c : Nat} {A : Option Addr} {xs : List Value} (hk : m k = some (.row 149 6 (.slice A n c) n xs)) (hne : ∀ b, k ≠ .old b) (hM : ∀ b, m (.old b) = M b)
    (hold : ∀ b a, M b = some a → ∃ cur, a = .blk b cur 149) :
    ∃ M' : Mm, (∀ b a, M b = some a → M' b = some a) ∧ (∀ b a, M' b = some a → ∃ cur, a = .blk b cur 149) ∧ RowM M' A n xs ∧ Hp w B (gone m M' k) := by
  have ho := h.own hk
  rcases Nat.eq_zero_or_pos n with h0 | h0
  · refine ⟨M, fun _ _ e => e, hold, ⟨ho.1, fun hn => by omega⟩, h.turn id (fun i j _ _ _ _ e => e) (fun j a ha => ?_)⟩
    cases j with
    | old b => exact ⟨a, (hM b).trans ha, h.holds _ _ ((hM b).trans ha), fun _ e => e⟩
    | _ =>
      simp only [gone] at ha
      split at ha
      · cases ha
      · exact ⟨a, ha, h.holds _ _ ha, fun _ e => e⟩
  · obtain ⟨g, c', cur, hv, _, hB, hg, htk⟩ := own_block ho h0
    cases hv
    have hnot : M g = none := by
      cases hMg : M g with
      | none => rfl
      | some a =>
        obtain ⟨cur', rfl⟩ := hold g a hMg
        exact absurd (h.apart k (.old g) _ _ g hk ((hM g).trans hMg) rfl rfl) (hne g)
    refine ⟨fun b => if b = g then some (.blk g cur 149) else M b, fun b a e => ?_, fun b a e => ?_, ⟨ho.1, fun _ => ⟨g, cur, rfl, if_pos rfl, htk⟩⟩, ?_⟩
    · by_cases hb : b = g
      · subst hb; rw [hnot] at e; cases e
      · simp only [if_neg hb]; exact e
    · by_cases hb : b = g
      · subst hb; simp only [if_true, Option.some.injEq] at e; exact ⟨cur, e.symm⟩
      · simp only [if_neg hb] at e; exact hold b a e
    · refine h.turn (fun (j : PKey) => match j with
        | .old b => if b = g then k else .old b
        | j => j) (fun i j a b hi hj e => ?_) (fun j a ha => ?_)
      · cases i with
        | old bi =>
          cases j with
          | old bj =>
            simp only at e
            by_cases h1 : bi = g
            · by_cases h2 : bj = g
              · rw [h1, h2]
              · rw [if_pos h1, if_neg h2] at e; exact absurd e (hne bj)
            · by_cases h2 : bj = g
              · rw [if_neg h1, if_pos h2] at e; exact absurd e.symm (hne bi)
              · rw [if_neg h1, if_neg h2] at e; exact e
          | _ =>
            simp only [gone] at e hj
            by_cases h1 : bi = g
            · rw [if_pos h1] at e; rw [if_pos e.symm] at hj; cases hj
            · rw [if_neg h1] at e; cases e
        | _ =>
          cases j with
          | old bj =>
            simp only [gone] at e hi
            by_cases h1 : bj = g
            · rw [if_pos h1] at e; rw [if_pos e] at hi; cases hi
            · rw [if_neg h1] at e; cases e
          | _ => exact e
      · cases j with
        | old b =>
          simp only [gone] at ha
          by_cases hb : b = g
          · subst hb
            simp only [if_true, Option.some.injEq] at ha ⊢
            subst ha
            exact ⟨_, hk, ⟨hB, hg⟩, fun _ e => e⟩
          · simp only [if_neg hb] at ha ⊢
            exact ⟨a, (hM b).trans ha, h.holds _ _ ((hM b).trans ha), fun _ e => e⟩
        | _ =>
          simp only [gone] at ha
          split at ha
          · cases ha
          · exact ⟨a, ha, h.holds _ _ ha, fun _ e => e⟩
/-- a struct is stored at a row's end -/
theorem own_six {g n c : Nat} {e : TypeId} {xs : List Value} {z0 z1 z2 z3 z4 z5 : Value} (h : w.ownsRow B e 6 (.slice (some ⟨g, 0, none⟩) (n + 1) c) (n + 1) (xs ++ [z0, z1, z2, z3, z4, z5])) (hx : xs.length = n * 6) (a0 a1 a2 a3 a4 a5 : Value) :
    ((((((w.setCell ⟨g, n * 6, none⟩ a0).setCell ⟨g, n * 6 + 1, none⟩ a1).setCell ⟨g, n * 6 + 2, none⟩ a2).setCell ⟨g, n * 6 + 3, none⟩ a3).setCell ⟨g, n * 6 + 4, none⟩ a4).setCell ⟨g, n * 6 + 5, none⟩ a5).ownsRow B e 6 (.slice (some ⟨g, 0, none⟩) (n + 1) c) (n + 1) (xs ++ [a0, a1, a2, a3, a4, a5]) ∧
      w.grownBy ((((((w.setCell ⟨g, n * 6, none⟩ a0).setCell ⟨g, n * 6 + 1, none⟩ a1).setCell ⟨g, n * 6 + 2, none⟩ a2).setCell ⟨g, n * 6 + 3, none⟩ a3).setCell ⟨g, n * 6 + 4, none⟩ a4).setCell ⟨g, n * 6 + 5, none⟩ a5) (some g) := by
  obtain ⟨s0, g0⟩ := h.stored (n * 6) a0
  obtain ⟨s1, g1⟩ := s0.stored (n * 6 + 1) a1
  obtain ⟨s2, g2⟩ := s1.stored (n * 6 + 2) a2
  obtain ⟨s3, g3⟩ := s2.stored (n * 6 + 3) a3
  obtain ⟨s4, g4⟩ := s3.stored (n * 6 + 4) a4
  obtain ⟨s5, g5⟩ := s4.stored (n * 6 + 5) a5
  refine ⟨?_, ((((g0.trans g1).trans g2).trans g3).trans g4).trans g5⟩
  have hz : (((((((xs ++ [z0, z1, z2, z3, z4, z5]).set (n * 6) a0).set (n * 6 + 1) a1).set (n * 6 + 2) a2).set (n * 6 + 3) a3).set (n * 6 + 4) a4).set (n * 6 + 5) a5) = xs ++ [a0, a1, a2, a3, a4, a5] := by
    rw [← hx]
    simp
  rw [hz] at s5
  exact s5
theorem good_lst {M' : Mm} (hm : ∀ b a, M b = some a → M' b = some a) (hg : x.Good M) (hA : ∀ t, x.c.lst = some t → ∃ A c, x.lv = .slice A t.2.2.length c ∧ t.2.2.length ≤ c ∧ RowM M' A t.2.2.length x.iss.flatten) :
    ∃ cs', TMs M' x.c.all cs' ∧ cs'.flatten = x.css.flatten ++ lstCells x.lv x.c.lst := by
  cases hl : x.c.lst with
  | none =>
    refine ⟨x.css, ?_, by simp [lstCells]⟩
    unfold Pb.Cn.all
    rw [hl]
    simp only [Pb.listTree, List.append_nil]
    exact TMs_mono hm hg.1
  | some t =>
    obtain ⟨s, ln, is⟩ := t
    obtain ⟨A, c, e1, e2, e3⟩ := hA _ hl
    refine ⟨x.css ++ [lstCells x.lv (some (s, ln, is))], ?_, by simp⟩
    unfold Pb.Cn.all
    rw [hl]
    refine TMs_snoc (TMs_mono hm hg.1) ?_
    unfold TM
    exact ⟨A, c, x.iss, by rw [e1]; rfl, e2, e3, TMs_mono hm (hg.2 s ln is hl)⟩
/-- the last list's row stays as it is -/
theorem retire_itm {m : PKey → Option Part} (h : Hp w B m) (hk : m (.itm o.length) = itmRow x) (hM : ∀ b, m (.old b) = M b) (hold : ∀ b a, M b = some a → ∃ cur, a = .blk b cur 149) (hg : x.Good M) :
    ∃ M' : Mm, (∀ b a, M b = some a → M' b = some a) ∧ (∀ b a, M' b = some a → ∃ cur, a = .blk b cur 149) ∧ (∃ cs', TMs M' x.c.all cs' ∧ cs'.flatten = x.css.flatten ++ lstCells x.lv x.c.lst) ∧ Hp w B (gone m M' (.itm o.length)) := by
  cases hl : x.c.lst with
  | none =>
    refine ⟨M, fun _ _ e => e, hold, by rw [← hl]; exact good_lst (fun _ _ e => e) hg (fun t e => by rw [hl] at e; cases e), h.same fun j => ?_⟩
    cases j with
    | old b => exact (hM b).symm
    | itm i =>
      simp only [gone]
      split
      · rename_i e
        rw [e, hk]; unfold itmRow; rw [hl]; rfl
      · rfl
    | _ => rfl
  | some t =>
    have hk' : m (.itm o.length) = some (.row 149 6 x.lv t.2.2.length x.iss.flatten) := by rw [hk]; unfold itmRow; rw [hl]; rfl
    obtain ⟨A, c, e1, e2⟩ := own_shape (h.own hk')
    rw [e1] at hk'
    obtain ⟨M', h1, h2, h3, h4⟩ := retire h hk' (fun _ e => by cases e) hM hold
    refine ⟨M', h1, h2, by rw [← hl]; exact good_lst h1 hg (fun t' e => by rw [hl] at e; cases e; exact ⟨A, c, e1, e2, h3⟩), h4⟩
/-- a block's cells more, whatever they are: where it all lies then -/
def AddRaw (w' : World) (B : Nat) (E : Nat → Option Part) (R : Nat) (rv lv pv : Value) (M : Mm) (x : MC) (o : List MC) (l : Pb.Of) (ps : List Bk.Pl) (cs : List Value) : Prop :=
  ∃ M' cs' v, (∀ b a, M b = some a → M' b = some a) ∧ (∀ b a, M' b = some a → ∃ cur, a = .blk b cur 149) ∧ TMs M' x.c.all cs' ∧ cs'.flatten = x.css.flatten ++ lstCells x.lv x.c.lst ∧ (∀ y ∈ o, y.Good M') ∧
    Hp w' B (gone (upd (upd (pparts E R rv lv pv M (x :: o) l ps) (.kid o.length) (.row 149 6 v (x.c.all.length + 1) (x.css.flatten ++ lstCells x.lv x.c.lst ++ cs))) .row
      (.row 167 9 rv (o.length + 1) (rowCells o ++ [.int .i64 (x.c.kind : Int), .int .i64 0, .string ⟨#[]⟩, .string ⟨#[]⟩, .int .i64 (x.c.line : Int), v, .int .u8 (x.c.sign.toNat : Int), .int .i64 (x.c.col : Int), .int .u8 0]))) M' (.itm o.length))
theorem add_raw (h : PAt w B E R rv lv pv M (x :: o) l ps) {cs : List Value} {v : Value}
    (hp : Hp w' B (upd (upd (pparts E R rv lv pv M (x :: o) l ps) (.kid o.length) (.row 149 6 v (x.c.all.length + 1) (x.css.flatten ++ lstCells x.lv x.c.lst ++ cs))) .row
      (.row 167 9 rv (o.length + 1) (rowCells o ++ [.int .i64 (x.c.kind : Int), .int .i64 0, .string ⟨#[]⟩, .string ⟨#[]⟩, .int .i64 (x.c.line : Int), v, .int .u8 (x.c.sign.toNat : Int), .int .i64 (x.c.col : Int), .int .u8 0])))) :
    AddRaw w' B E R rv lv pv M x o l ps cs := by
  obtain ⟨M', h1, h2, ⟨cs', h3, h3'⟩, h4⟩ := retire_itm (o := o) (M := M) hp (by
    show (lev (x :: o) o.length).bind itmRow = _
    rw [lev_top]; rfl) (fun b => rfl) h.old (h.good x List.mem_cons_self)
  exact ⟨M', cs', v, h1, h2, h3, h3', fun y hy => (h.good y (List.mem_cons_of_mem _ hy)).mono h1, h4⟩
/-- a block more -/
theorem add_done {t : Bk.Tree} {cs : List Value} (h : AddRaw w' B E R rv lv pv M x o l ps cs) (ht : TM M t cs) : ∃ M' x', x'.c = x.c.add t ∧ PAt w' B E R rv lv pv M' (x' :: o) l ps := by
  obtain ⟨M', cs', v, h1, h2, h3, h3', hgo, h4⟩ := h
  refine ⟨M', ⟨x.c.add t, v, cs' ++ [cs], .slice none 0 0, []⟩, rfl, h4.same fun j => ?_, fun y hy => ?_, h2⟩
  · cases j with
    | kid i =>
      rw [gone_ne (fun b e => by cases e) (fun e => by cases e), upd_other _ _ (by simp)]
      show (lev (_ :: o) i).map kidRow = _
      by_cases hi : i = o.length
      · subst hi
        rw [lev_top, upd_same]
        have e1 : (x.c.add t).all = x.c.all ++ [t] := by show (x.c.all ++ [t]) ++ [] = _; rw [List.append_nil]
        show some (Part.row _ 6 v (x.c.add t).all.length ((cs' ++ [cs]).flatten ++ [])) = _
        rw [e1, List.length_append, List.append_nil, List.flatten_append, h3']
        simp
      · rw [upd_other _ _ (by simpa using hi), lev_low _ x o hi]; rfl
    | itm i =>
      by_cases hi : i = o.length
      · subst hi
        rw [gone_at (fun b e => by cases e)]
        show (lev (_ :: o) _).bind itmRow = _
        rw [lev_top]; rfl
      · rw [gone_ne (fun b e => by cases e) (by simpa using hi), upd_other _ _ (by simp), upd_other _ _ (by simp)]
        show (lev (_ :: o) i).bind itmRow = _
        rw [lev_low _ x o hi]; rfl
    | row => rw [gone_ne (fun b e => by cases e) (fun e => by cases e), upd_same]; rfl
    | old b => rfl
    | _ => rw [gone_ne (fun b e => by cases e) (fun e => by cases e), upd_other _ _ (by simp), upd_other _ _ (by simp)]; rfl
  · rcases List.mem_cons.1 hy with rfl | hy
    · exact ⟨TMs_snoc h3 (TM_mono h1 ht), fun _ _ _ e => by cases e⟩
    · exact hgo y hy
abbrev set6 (w : World) (g p : Nat) (a0 a1 a2 a3 a4 a5 : Value) : World := (((((w.setCell ⟨g, p, none⟩ a0).setCell ⟨g, p + 1, none⟩ a1).setCell ⟨g, p + 2, none⟩ a2).setCell ⟨g, p + 3, none⟩ a3).setCell ⟨g, p + 4, none⟩ a4).setCell ⟨g, p + 5, none⟩ a5
theorem set6_below {w0 : World} (hb : Below B w0 w) {g : Nat} (hg : B ≤ g) (p : Nat) (a0 a1 a2 a3 a4 a5 : Value) : Below B w0 (set6 w g p a0 a1 a2 a3 a4 a5) :=
  (((((hb.setCell (p := ⟨g, p, none⟩) hg _).setCell (p := ⟨g, p + 1, none⟩) hg _).setCell (p := ⟨g, p + 2, none⟩) hg _).setCell (p := ⟨g, p + 3, none⟩) hg _).setCell (p := ⟨g, p + 4, none⟩) hg _).setCell (p := ⟨g, p + 5, none⟩) hg _
/-- a cell of the row of containers is written -/
theorem row_set {g c n : Nat} {cells : List Value} {m : PKey → Option Part} (h : Hp w B m) (hr : m .row = some (.row 167 9 (.slice (some ⟨g, 0, none⟩) n c) n cells)) (j : Nat) (s : Value) :
    Hp (w.setCell ⟨g, j, none⟩ s) B (upd m .row (.row 167 9 (.slice (some ⟨g, 0, none⟩) n c) n (cells.set j s))) := by
  obtain ⟨s1, g1⟩ := (h.own hr).stored j s
  exact h.uput (k := .row) _ hr g1 s1 (fun _ e => .inl e)
theorem tip_cells {P : Nat} (hP : o.length * 9 = P) (v s : Value) : ((rowCells (x :: o)).set (P + 5) v).set (P + 8) s = rowCells o ++ [.int .i64 (x.c.kind : Int), .int .i64 0, .string ⟨#[]⟩, .string ⟨#[]⟩, .int .i64 (x.c.line : Int), v, .int .u8 (x.c.sign.toNat : Int), .int .i64 (x.c.col : Int), s] := by
  rw [← hP, ← rowCells_len]
  simp [rowCells, contCells]
/-- the new block's cells are written -/
theorem kid_put {vg vc n : Nat} {m : PKey → Option Part} {k : PKey} {X : List Value} {z0 z1 z2 z3 z4 z5 : Value} (h : Hp w B m) (hr : m k = some (.row 149 6 (.slice (some ⟨vg, 0, none⟩) (n + 1) vc) (n + 1) (X ++ [z0, z1, z2, z3, z4, z5]))) (hX : X.length = n * 6) {P : Nat} (hP : n * 6 = P) (a0 a1 a2 a3 a4 a5 : Value) :
    Hp (set6 w vg P a0 a1 a2 a3 a4 a5) B (upd m k (.row 149 6 (.slice (some ⟨vg, 0, none⟩) (n + 1) vc) (n + 1) (X ++ [a0, a1, a2, a3, a4, a5]))) := by
  subst hP
  obtain ⟨s1, g1⟩ := own_six (h.own hr) hX a0 a1 a2 a3 a4 a5
  exact h.uput (k := k) _ hr g1 s1 (fun _ e => .inl e)
end
end Go.Proofs.YtmmgfoepfapnkaaGreatDoor

namespace Go.Proofs.YtmmgfoepfapnkaaGreatDoor
open Go.RowKit
attribute [local go_sem] canOp readsAs readUpon

set_option maxHeartbeats 1000000 in
set_option maxRecDepth 100000 in
theorem pb_plast_any (w : World) (B : Nat) (E : Nat → Option Part) (R : Nat) (rv lv pv : Value) (M : Mm) (x : MC) (o : List MC) (l : Pb.Of) (ps : List Bk.Pl) (h : PAt w B E R rv lv pv M (x :: o) l ps) (g c : Nat) (hg : rv = .slice (some ⟨g, 0, none⟩) (o.length + 1) c) (hlen : o.length ≤ 1000) :
    Calls Tryz.prog 124 #[adr R] w fun e w' => e = .returned (.pointer (some ⟨g, o.length * 9, none⟩)) ∧ Below w.heap.size w w' := by
  obtain ⟨_, _, _, hc0, _⟩ := rd_facts h
  subst hg
  clear h
  go_enter Tryz.func124, Tryz.ntmps124
  go_wp2_with fail
  go_quiet (fail)
  go_wp2_with fail
  go_ret
  exact ⟨rfl, below_drewN (Below.refl _ _) _⟩

set_option maxHeartbeats 1000000 in
set_option maxRecDepth 100000 in
theorem padd_raw (w : World) (B : Nat) (E : Nat → Option Part) (R : Nat) (rv lv pv : Value) (M : Mm) (x : MC) (o : List MC) (l : Pb.Of) (ps : List Bk.Pl) (h : PAt w B E R rv lv pv M (x :: o) l ps) (g c : Nat) (hg : rv = .slice (some ⟨g, 0, none⟩) (o.length + 1) c)
    (t0 t1 t4 : Int) (t2 t3 : List UInt8) (tA : Option Addr) (tn tk : Nat) (hlen : o.length ≤ 1000) (hkids : x.c.all.length ≤ 1000000000) :
    Calls Tryz.prog 126 #[.pointer (some ⟨g, o.length * 9, none⟩), .agg #[.int .i64 t0, .int .i64 t1, .string (bs t2), .string (bs t3), .int .i64 t4, .slice tA tn tk]] w fun e w' => e = .returned (.tuple #[]) ∧ AddRaw w' B E R rv lv pv M x o l ps [.int .i64 t0, .int .i64 t1, .string (bs t2), .string (bs t3), .int .i64 t4, .slice tA tn tk] ∧ Below B w w' := by
  obtain ⟨hR1, hR2, _⟩ := rd_facts h
  obtain ⟨g', c', e', _, hgR, hgB, hgw, hgf, hgc⟩ := row_facts h
  rw [hg] at e'
  cases e'
  subst hg
  have q5 := hgc 5 _ rfl
  have q8 := hgc 8 _ rfl
  have hkr := h.hp.own (k := .kid o.length) (by show (lev (x :: o) o.length).map kidRow = _; rw [lev_top]; rfl)
  obtain ⟨kA, kc, hkv, hkc⟩ := own_shape hkr
  obtain ⟨P, hP⟩ : ∃ P, o.length * 9 = P := ⟨_, rfl⟩
  have hPl : P ≤ 9000 := by omega
  obtain ⟨n, hn⟩ : ∃ n, x.c.all.length = n := ⟨_, rfl⟩
  obtain ⟨X, hX⟩ : ∃ X, x.css.flatten ++ lstCells x.lv x.c.lst = X := ⟨_, rfl⟩
  rw [hn] at hkr hkids hkc hkv
  rw [hX] at hkr
  rw [hkv] at q5 hkr
  rw [hP] at q5 q8 ⊢
  have hwb := ext_alloc w (.cells #[.int .i64 t0, .int .i64 t1, .string (bs t2), .string (bs t3), .int .i64 t4, .slice tA tn tk] 149)
  have hwn := heap_alloc_new w (.cells #[.int .i64 t0, .int .i64 t1, .string (bs t2), .string (bs t3), .int .i64 t4, .slice tA tn tk] 149)
  have hwz : (w.alloc (.cells #[.int .i64 t0, .int .i64 t1, .string (bs t2), .string (bs t3), .int .i64 t4, .slice tA tn tk] 149)).heap.size = w.heap.size + 1 := by simp
  obtain ⟨w1, hw1⟩ : ∃ w1, w.alloc (.cells #[.int .i64 t0, .int .i64 t1, .string (bs t2), .string (bs t3), .int .i64 t4, .slice tA tn tk] 149) = w1 := ⟨_, rfl⟩
  rw [hw1] at hwb hwn hwz
  replace h := Lib.hid h
  replace hw1 := Lib.hid hw1
  replace hkr := Lib.hid hkr
  replace hkv := Lib.hid hkv
  replace hwn := Lib.hid hwn
  replace hn := Lib.hid hn
  replace hX := Lib.hid hX
  replace hP := Lib.hid hP
  clear hgc hgf
  go_enter Tryz.func126, Tryz.ntmps126
  go_wp2_with fail
  rw [hw1.out]
  have s5 : w1.drew.cell? ⟨g, P + 5, none⟩ = some (.slice kA n kc) := (hwb.cell (p := ⟨g, P + 5, none⟩) hgw).trans q5
  have sb : ∀ j u, [Value.int .i64 t0, .int .i64 t1, .string (bs t2), .string (bs t3), .int .i64 t4, .slice tA tn tk][j]? = some u → w1.drew.cell? ⟨w.heap.size, j, none⟩ = some u := fun j u hj => cell_of (w := w1.drew) hwn.out hj
  refine wp_region_bar 8 [(true, 0), (true, 1), (true, 2), (true, 3), (true, 4), (true, 5), (true, 6), (false, 7)] 6 (.rd 9 (.rd 11 (.rd 12 (.rd 13 (.fk 10 (.mk 14 .fin) 14 (.mk 10 .fin)))))) (Ext w1.drew) (Below.refl _ _) (by kernel_rfl) (by kernel_rfl) (by kernel_rfl) (fun _ _ d _ _ h => by cases d <;> exact h) ?_
  repeat (first | refine wpBar_move rfl ?_ | (refine wpBar_cons rfl ?_; intro K hK; go_simp; refine hK _ _ _ ?_; clear hK K))
  refine wpBar_read (.slice kA n kc) rfl rfl (Below.refl _ _) (fun u hu => by have s5u := (Below.cell hu (p := ⟨g, P + 5, none⟩) (by have := hwb.size; show g < w1.heap.size; omega)).trans s5; go_simp) ?_
  refine wpBar_read (.agg #[.int .i64 t0, .int .i64 t1, .string (bs t2), .string (bs t3), .int .i64 t4, .slice tA tn tk]) rfl rfl (Below.refl _ _) (fun u hu => by
    have hub := fun j v hj => (Below.cell hu (p := ⟨w.heap.size, j, none⟩) (by show w.heap.size < w1.heap.size; omega)).trans (sb j v hj)
    have u0 := hub 0 _ rfl
    have u1 := hub 1 _ rfl
    have u2 := hub 2 _ rfl
    have u3 := hub 3 _ rfl
    have u4 := hub 4 _ rfl
    have u5 := hub 5 _ rfl
    clear hub
    go_simp) ?_
  repeat (first | refine wpBar_move rfl ?_ | (refine wpBar_cons rfl ?_; intro K hK; go_simp; refine hK _ _ _ ?_; clear hK K))
  refine wpBar_cons rfl ?_
  intro K hK
  go_simp
  refine can_ext (ext_alloc _ _) (hK _ _ _ ?_)
  clear hK K
  have hBw : B ≤ w.heap.size := by omega
  obtain ⟨Z, hZ⟩ : ∃ Z : Array Value, #[Value.int .i64 0, .int .i64 0, .string ⟨#[]⟩, .string ⟨#[]⟩, .int .i64 0, .slice none 0 0] = Z := ⟨_, rfl⟩
  have hZ6 : Z.size = 1 * 6 := by rw [← hZ]; rfl
  have hZ1 : ∀ u ∈ Z.toList, u.oneCell' = true := by rw [← hZ]; intro u hu; simp at hu; rcases hu with rfl | rfl | rfl | rfl | rfl | rfl <;> rfl
  rw [hZ]
  have ho2 : (w1.alloc (.cells Z 149)).drew.ownsRow B 149 6 (.slice kA n kc) n X := ((own_below hkr.out hwb).alloc _).drew
  have hr2 : Row (w1.alloc (.cells Z 149)).drew (w1.alloc (.cells Z 149)).drew.heap.size 6 (some ⟨w.heap.size + 1, 0, none⟩) 1 Z.toList := by
    have := Row.freshN w1 149 Z hZ6 rfl
    rw [hwz] at this; exact this
  have hz2 : (w1.alloc (.cells Z 149)).drew.heap.size = w.heap.size + 2 := by show (w1.alloc _).heap.size = _; simp [hwz]
  have hb2 : Below w.heap.size w (w1.alloc (.cells Z 149)).drew := (ext_trans hwb (ext_alloc w1 _)).drew
  generalize (w1.alloc (.cells Z 149)).drew = w2 at ho2 hr2 hz2 hb2 ⊢
  refine wpBar_bar rfl rfl ?_
  refine wp_app_row_at (v := .slice kA n kc) (.tmp 8) (.tmp 11) rfl pblockEI rfl ho2 rfl hr2 hZ1 (by omega) (by omega) (by omega) ?_
  intro v w3 hown3 hg3 hb3 hat3
  obtain ⟨vg, vc, cur, rfl, hvc, hvB, hvw, _⟩ := own_block hown3 (by omega)
  subst hZ
  replace hown3 : w3.ownsRow B 149 6 (.slice (some ⟨vg, 0, none⟩) (n + 1) vc) (n + 1) (X ++ ([.int .i64 0, .int .i64 0, .string ⟨#[]⟩, .string ⟨#[]⟩, .int .i64 0, .slice none 0 0] : List Value)) := hown3
  have hXl : X.length = n * 6 := hkr.out.1
  have hkd : h.out.hp.apart = h.out.hp.apart := rfl
  have hkk : (pparts E R (.slice (some ⟨g, 0, none⟩) (o.length + 1) c) lv pv M (x :: o) l ps) (.kid o.length) = some (.row 149 6 (.slice kA n kc) n X) := by
    show (lev (x :: o) o.length).map kidRow = _
    rw [lev_top]
    show some (Part.row _ 6 x.kv x.c.all.length (x.css.flatten ++ lstCells x.lv x.c.lst)) = _
    rw [hkv.out, hn.out, hX.out]
  have hgne : some g ≠ (Value.slice kA n kc).ownBlock := fun e => by
    have := h.out.hp.apart .row (.kid o.length) _ _ g rfl hkk rfl e.symm
    cases this
  have hvg : vg ≠ g := fun e => by
    rcases hat3.out vg rfl with h1 | h1
    · exact hgne (by rw [h1, e])
    · omega
  have m1 := (h.out.hp.ext hb2).uput (k := .kid o.length) (.row 149 6 (.slice (some ⟨vg, 0, none⟩) (n + 1) vc) (n + 1) (X ++ ([.int .i64 0, .int .i64 0, .string ⟨#[]⟩, .string ⟨#[]⟩, .int .i64 0, .slice none 0 0] : List Value))) hkk hg3.out hown3 hat3.out
  have hr1 : upd (pparts E R (.slice (some ⟨g, 0, none⟩) (o.length + 1) c) lv pv M (x :: o) l ps) (.kid o.length) (.row 149 6 (.slice (some ⟨vg, 0, none⟩) (n + 1) vc) (n + 1) (X ++ ([.int .i64 0, .int .i64 0, .string ⟨#[]⟩, .string ⟨#[]⟩, .int .i64 0, .slice none 0 0] : List Value))) .row = some (.row 167 9 (.slice (some ⟨g, 0, none⟩) (o.length + 1) c) (o.length + 1) (rowCells (x :: o))) := rfl
  obtain ⟨P6, hP6⟩ : ∃ P6, n * 6 = P6 := ⟨_, rfl⟩
  have hP6l : P6 ≤ 6000000000 := by omega
  have hfv := World.ownsRow.frozenAt hown3
  have hzc := fun j u (hj : [Value.int .i64 0, .int .i64 0, .string ⟨#[]⟩, .string ⟨#[]⟩, .int .i64 0, .slice none 0 0][j]? = some u) => own_cell (j := P6 + j) (u := u) hown3 (by rw [List.getElem?_append_right (by omega), hXl, hP6, Nat.add_sub_cancel_left]; exact hj)
  have z0 := hzc 0 _ rfl
  have z1 := hzc 1 _ rfl
  have z2 := hzc 2 _ rfl
  have z3 := hzc 3 _ rfl
  have z4 := hzc 4 _ rfl
  have z5 := hzc 5 _ rfl
  rw [Nat.add_zero] at z0
  have hgw3 : g < w3.heap.size := by have := hg3.out.size; omega
  have y5 : w3.cell? ⟨g, P + 5, none⟩ = some (.slice kA n kc) := hg3.out.cell ((hb2.cell (p := ⟨g, P + 5, none⟩) hgw).trans q5) hgne
  have y8 : w3.cell? ⟨g, P + 8, none⟩ = some (.int .u8 (x.c.listSign.toNat : Int)) := hg3.out.cell ((hb2.cell (p := ⟨g, P + 8, none⟩) hgw).trans q8) hgne
  have hfg := World.ownsRow.frozenAt (m1.own hr1)
  have hb3' := (hb2.mono hBw).trans hb3
  have hpost : ∀ wf, Hp wf B (upd (upd (pparts E R (.slice (some ⟨g, 0, none⟩) (o.length + 1) c) lv pv M (x :: o) l ps) (.kid o.length) (.row 149 6 (.slice (some ⟨vg, 0, none⟩) (n + 1) vc) (n + 1) (X ++ ([.int .i64 t0, .int .i64 t1, .string (bs t2), .string (bs t3), .int .i64 t4, .slice tA tn tk] : List Value)))) .row (.row 167 9 (.slice (some ⟨g, 0, none⟩) (o.length + 1) c) (o.length + 1) (((rowCells (x :: o)).set (P + 5) (.slice (some ⟨vg, 0, none⟩) (n + 1) vc)).set (P + 8) (.int .u8 0)))) →
      AddRaw wf B E R (.slice (some ⟨g, 0, none⟩) (o.length + 1) c) lv pv M x o l ps [.int .i64 t0, .int .i64 t1, .string (bs t2), .string (bs t3), .int .i64 t4, .slice tA tn tk] := by
    intro wf hw
    rw [tip_cells hP.out, ← hn.out, ← hX.out] at hw
    exact add_raw h.out hw
  have hmA : ∀ a0 a1 a2 a3 a4 a5, Hp (((set6 w3 vg P6 a0 a1 a2 a3 a4 a5).setCell ⟨g, P + 5, none⟩ (.slice (some ⟨vg, 0, none⟩) (n + 1) vc)).setCell ⟨g, P + 8, none⟩ (.int .u8 0)) B _ := fun a0 a1 a2 a3 a4 a5 => row_set (row_set (kid_put m1 (upd_same _ _ _) hXl hP6 a0 a1 a2 a3 a4 a5) hr1 (P + 5) _) (upd_same _ _ _) (P + 8) _
  have hmB : ∀ a0 a1 a2 a3 a4 a5, Hp ((set6 (w3.setCell ⟨g, P + 5, none⟩ (.slice (some ⟨vg, 0, none⟩) (n + 1) vc)) vg P6 a0 a1 a2 a3 a4 a5).setCell ⟨g, P + 8, none⟩ (.int .u8 0)) B _ := fun a0 a1 a2 a3 a4 a5 => row_set (kid_put (row_set m1 hr1 (P + 5) _) ((upd_other _ _ (by simp)).trans (upd_same _ _ _)) hXl hP6 a0 a1 a2 a3 a4 a5) ((upd_other _ _ (by simp)).trans (upd_same _ _ _)) (P + 8) _
  have hfA := hpost _ ((hmA (.int .i64 t0) (.int .i64 t1) (.string (bs t2)) (.string (bs t3)) (.int .i64 t4) (.slice tA tn tk)).same fun j => by
    unfold upd; by_cases h1 : j = .row
    · simp [h1]
    · by_cases h2 : j = .kid o.length <;> simp [h1, h2])
  have hfB := hpost _ ((hmB (.int .i64 t0) (.int .i64 t1) (.string (bs t2)) (.string (bs t3)) (.int .i64 t4) (.slice tA tn tk)).same fun j => by
    unfold upd; by_cases h1 : j = .row
    · simp [h1]
    · by_cases h2 : j = .kid o.length <;> simp [h1, h2])
  have hvB' : B ≤ vg := hvB
  have hbA := (set6_below hb3' hvB P6 (.int .i64 t0) (.int .i64 t1) (.string (bs t2)) (.string (bs t3)) (.int .i64 t4) (.slice tA tn tk))
  have hbB := (set6_below (hb3'.setCell (p := ⟨g, P + 5, none⟩) hgB (.slice (some ⟨vg, 0, none⟩) (n + 1) vc)) hvB P6 (.int .i64 t0) (.int .i64 t1) (.string (bs t2)) (.string (bs t3)) (.int .i64 t4) (.slice tA tn tk)).setCell (p := ⟨g, P + 8, none⟩) hgB (.int .u8 0)
  replace hbA := Lib.hid ((hbA.setCell (p := ⟨g, P + 5, none⟩) hgB (.slice (some ⟨vg, 0, none⟩) (n + 1) vc)).setCell (p := ⟨g, P + 8, none⟩) hgB (.int .u8 0))
  replace hbB := Lib.hid hbB
  replace hfA := Lib.hid hfA
  replace hfB := Lib.hid hfB
  clear hmA hmB hpost
  replace m1 := Lib.hid m1
  clear hr1 hzc hkk hgne hkd
  have hn0 : (0 : Int) ≤ (n : Int) := by omega
  have hn1 : (n : Int) < (n : Int) + 1 := by omega
  refine ⟨fun _ => True, trivial, ?_⟩
  repeat (first | refine wpT_move rfl ?_ | (refine wpT_rd rfl ?_; intro K hK; go_simp; refine hK _ _ _ ?_; clear hK K))
  refine wpT_fk ?_ ?_
  · refine wpT_mk rfl ?_
    intro K hK
    go_simp
    refine ⟨fun _ => True, trivial, hK _ _ _ ?_⟩
    clear hK K
    refine wpT_mk rfl ?_
    intro K hK
    go_simp
    refine ⟨fun _ => True, trivial, hK _ _ _ ?_⟩
    clear hK K
    refine wpT_fin ?_
    go_wp2_with fail
    go_returns
    exact ⟨rfl, hfA.out, hbA.out⟩
  · refine wpT_mk rfl ?_
    intro K hK
    go_simp
    refine ⟨fun _ => True, trivial, hK _ _ _ ?_⟩
    clear hK K
    refine wpT_mk rfl ?_
    intro K hK
    go_simp
    refine ⟨fun _ => True, trivial, hK _ _ _ ?_⟩
    clear hK K
    refine wpT_fin ?_
    go_wp2_with fail
    go_returns
    exact ⟨rfl, hfB.out, hbB.out⟩
theorem padd_any (w : World) (B : Nat) (E : Nat → Option Part) (R : Nat) (rv lv pv : Value) (M : Mm) (x : MC) (o : List MC) (l : Pb.Of) (ps : List Bk.Pl) (h : PAt w B E R rv lv pv M (x :: o) l ps) (g c : Nat) (hg : rv = .slice (some ⟨g, 0, none⟩) (o.length + 1) c)
    (t : Bk.Tree) (cs : List Value) (ht : TM M t cs) (hlen : o.length ≤ 1000) (hkids : x.c.all.length ≤ 1000000000) :
    Calls Tryz.prog 126 #[.pointer (some ⟨g, o.length * 9, none⟩), .agg cs.toArray] w fun e w' => e = .returned (.tuple #[]) ∧ (∃ M' x', x'.c = x.c.add t ∧ PAt w' B E R rv lv pv M' (x' :: o) l ps) ∧ Below B w w' := by
  obtain ⟨t0, t1, t4, t2, t3, tA, tn, tk, rfl⟩ := TM_form ht
  exact (padd_raw w B E R rv lv pv M x o l ps h g c hg t0 t1 t4 t2 t3 tA tn tk hlen hkids).mono fun e w' ⟨h1, h2, h3⟩ => ⟨h1, add_done h2 ht, h3⟩
end Go.Proofs.YtmmgfoepfapnkaaGreatDoor

namespace Go.Proofs.YtmmgfoepfapnkaaGreatDoor
open Go.RowKit
attribute [local go_sem] canOp readsAs readUpon

section
variable {w w' : World} {B R : Nat} {E : Nat → Option Part} {rv lv pv : Value} {M : Mm} {x : MC} {o : List MC} {l : Pb.Of} {ps : List Bk.Pl}
/-- an item more in the last list -/
theorem item_done (h : PAt w B E R rv lv pv M (x :: o) l ps) {s : UInt8} {ln : Nat} {is : List Bk.Tree} (hl : x.c.lst = some (s, ln, is)) {t : Bk.Tree} {cs : List Value} (ht : TM M t cs) {v : Value}
    (hp : Hp w' B (upd (upd (pparts E R rv lv pv M (x :: o) l ps) (.itm o.length) (.row 149 6 v (is.length + 1) (x.iss.flatten ++ cs))) (.kid o.length) (.row 149 6 x.kv x.c.all.length ((x.css.flatten ++ lstCells x.lv x.c.lst).set (x.c.kids.length * 6 + 5) v)))) :
    ∃ x', x'.c = { x.c with lst := some (s, ln, is ++ [t]) } ∧ PAt w' B E R rv lv pv M (x' :: o) l ps := by
  have hgx := h.good x List.mem_cons_self
  have hlen := TMs_len hgx.1
  refine ⟨⟨{ x.c with lst := some (s, ln, is ++ [t]) }, x.kv, x.css, v, x.iss ++ [cs]⟩, rfl, hp.same fun j => ?_, fun y hy => ?_, h.old⟩
  · cases j with
    | kid i =>
      by_cases hi : i = o.length
      · subst hi
        rw [upd_same]
        show (lev (_ :: o) _).map kidRow = _
        rw [lev_top]
        show some (Part.row _ 6 x.kv (x.c.kids ++ [Bk.Tree.mk 2 0 [] [] ln (is ++ [t])]).length (x.css.flatten ++ lstCells v (some (s, ln, is ++ [t])))) = _
        have e1 : x.c.all.length = (x.c.kids ++ [Bk.Tree.mk 2 0 [] [] ln (is ++ [t])]).length := by unfold Pb.Cn.all; rw [hl]; simp [Pb.listTree]
        have e2 : (x.css.flatten ++ lstCells x.lv x.c.lst).set (x.c.kids.length * 6 + 5) v = x.css.flatten ++ lstCells v (some (s, ln, is ++ [t])) := by
          rw [hl, ← hlen]; simp [lstCells]
        rw [e1, e2]
      · rw [upd_other _ _ (by simpa using hi), upd_other _ _ (by simp)]
        show (lev (_ :: o) i).map kidRow = _
        rw [lev_low _ x o hi]; rfl
    | itm i =>
      rw [upd_other _ _ (by simp)]
      by_cases hi : i = o.length
      · subst hi
        rw [upd_same]
        show (lev (_ :: o) _).bind itmRow = _
        rw [lev_top]
        show some (Part.row _ 6 v (is ++ [t]).length (x.iss ++ [cs]).flatten) = _
        rw [List.length_append, List.flatten_append]
        simp
      · rw [upd_other _ _ (by simpa using hi)]
        show (lev (_ :: o) i).bind itmRow = _
        rw [lev_low _ x o hi]; rfl
    | row =>
      rw [upd_other _ _ (by simp), upd_other _ _ (by simp)]
      show some (Part.row _ 9 rv _ (rowCells o ++ contCells _)) = some (Part.row _ 9 rv _ (rowCells o ++ contCells x))
      unfold contCells Pb.Cn.listSign
      rw [hl]; rfl
    | _ => rw [upd_other _ _ (by simp), upd_other _ _ (by simp)]; rfl
  · rcases List.mem_cons.1 hy with rfl | hy
    · exact ⟨hgx.1, fun s' ln' is' e => by cases e; exact TMs_snoc (hgx.2 s ln is hl) ht⟩
    · exact h.good y (List.mem_cons_of_mem _ hy)
/-- a part's cell is written -/
theorem part_set {K : Type} [DecidableEq K] {m : K → Option Part} (h : Hp w B m) {k : K} {e : TypeId} {size g c n : Nat} {cells : List Value} (hr : m k = some (.row e size (.slice (some ⟨g, 0, none⟩) n c) n cells)) (j : Nat) (s : Value) :
    Hp (w.setCell ⟨g, j, none⟩ s) B (upd m k (.row e size (.slice (some ⟨g, 0, none⟩) n c) n (cells.set j s))) := by
  obtain ⟨s1, g1⟩ := (h.own hr).stored j s
  exact h.uput (k := k) _ hr g1 s1 (fun _ e => .inl e)
end

set_option maxHeartbeats 1000000 in
set_option maxRecDepth 100000 in
theorem pitem_same (w : World) (B : Nat) (E : Nat → Option Part) (R : Nat) (rv lv pv : Value) (M : Mm) (x : MC) (o : List MC) (l : Pb.Of) (ps : List Bk.Pl) (h : PAt w B E R rv lv pv M (x :: o) l ps) (g c : Nat) (hg : rv = .slice (some ⟨g, 0, none⟩) (o.length + 1) c)
    (s : UInt8) (ln : Nat) (is : List Bk.Tree) (hl : x.c.lst = some (s, ln, is)) (t : Bk.Tree) (t0 t1 t4 : Int) (t2 t3 : List UInt8) (tA : Option Addr) (tn tk : Nat) (ht : TM M t [.int .i64 t0, .int .i64 t1, .string (bs t2), .string (bs t3), .int .i64 t4, .slice tA tn tk]) (dc : Int) (dl : UInt8)
    (hlen : o.length ≤ 1000) (hkids : x.c.all.length ≤ 1000000000) (his : is.length ≤ 1000000000) :
    Calls Tryz.prog 125 #[.pointer (some ⟨g, o.length * 9, none⟩), .agg #[.int .i64 t0, .int .i64 t1, .string (bs t2), .string (bs t3), .int .i64 t4, .slice tA tn tk, .int .u8 (s.toNat : Int), .int .i64 dc, .int .u8 (dl.toNat : Int)]] w fun e w' =>
      e = .returned (.tuple #[]) ∧ (∃ x', x'.c = { x.c with lst := some (s, ln, is ++ [t]) } ∧ PAt w' B E R rv lv pv M (x' :: o) l ps) ∧ Below B w w' := by
  obtain ⟨hR1, hR2, _⟩ := rd_facts h
  obtain ⟨g', c', e', _, hgR, hgB, hgw, hgf, hgc⟩ := row_facts h
  rw [hg] at e'
  cases e'
  subst hg
  have q5 := hgc 5 _ rfl
  have q8 := hgc 8 _ rfl
  rw [show x.c.listSign = s from by unfold Pb.Cn.listSign; rw [hl]] at q8
  have hkk : (pparts E R (.slice (some ⟨g, 0, none⟩) (o.length + 1) c) lv pv M (x :: o) l ps) (.kid o.length) = some (.row 149 6 x.kv x.c.all.length (x.css.flatten ++ lstCells x.lv x.c.lst)) := by
    show (lev (x :: o) o.length).map kidRow = _
    rw [lev_top]; rfl
  have hik : (pparts E R (.slice (some ⟨g, 0, none⟩) (o.length + 1) c) lv pv M (x :: o) l ps) (.itm o.length) = some (.row 149 6 x.lv is.length x.iss.flatten) := by
    show (lev (x :: o) o.length).bind itmRow = _
    rw [lev_top]
    show itmRow x = _
    unfold itmRow; rw [hl]; rfl
  have hkr := h.hp.own hkk
  have hir := h.hp.own hik
  obtain ⟨m, hm⟩ : ∃ m, x.c.kids.length = m := ⟨_, rfl⟩
  have hn : x.c.all.length = m + 1 := by unfold Pb.Cn.all; rw [hl, List.length_append, hm]; rfl
  obtain ⟨kg, kc, cur, hkv, hkc, hkB, hkw, _⟩ := own_block hkr (by omega)
  obtain ⟨iA, ic, hiv, hic⟩ := own_shape hir
  rw [hn] at hkv hkr hkids
  rw [hkv] at q5 hkr hkk
  rw [hn] at hkk
  rw [hiv] at hir hik
  have hcl : x.css.flatten.length = m * 6 := by rw [TMs_len (h.good x List.mem_cons_self).1, hm]
  obtain ⟨X, hX⟩ : ∃ X, x.css.flatten ++ lstCells x.lv x.c.lst = X := ⟨_, rfl⟩
  have hXi : X[m * 6 + 5]? = some (.slice iA is.length ic) := by
    rw [← hX, List.getElem?_append_right (by omega), hcl, Nat.add_sub_cancel_left, hl, ← hiv]; rfl
  rw [hX] at hkr hkk
  have hk5 := own_cell hkr hXi
  have hkgg : kg ≠ g := fun e => by have := h.hp.apart .row (.kid o.length) _ _ g rfl hkk rfl (by rw [← e]; rfl); cases this
  have hikg : some kg ≠ (Value.slice iA is.length ic).ownBlock := fun e => by have := h.hp.apart (.kid o.length) (.itm o.length) _ _ kg hkk hik rfl e.symm; cases this
  obtain ⟨P, hP⟩ : ∃ P, o.length * 9 = P := ⟨_, rfl⟩
  have hPl : P ≤ 9000 := by omega
  obtain ⟨ni, hni⟩ : ∃ ni, is.length = ni := ⟨_, rfl⟩
  obtain ⟨Y, hY⟩ : ∃ Y, x.iss.flatten = Y := ⟨_, rfl⟩
  rw [hni] at hir hik hikg hk5 his hic
  rw [hY] at hir hik
  rw [hP] at q5 q8 ⊢
  obtain ⟨K6, hK6⟩ : ∃ K6, m * 6 = K6 := ⟨_, rfl⟩
  have hK6l : K6 ≤ 6000000000 := by omega
  rw [hK6] at hk5
  have hwb := ext_alloc w (.cells #[.int .i64 t0, .int .i64 t1, .string (bs t2), .string (bs t3), .int .i64 t4, .slice tA tn tk, .int .u8 (s.toNat : Int), .int .i64 dc, .int .u8 (dl.toNat : Int)] 167)
  have hwn := heap_alloc_new w (.cells #[.int .i64 t0, .int .i64 t1, .string (bs t2), .string (bs t3), .int .i64 t4, .slice tA tn tk, .int .u8 (s.toNat : Int), .int .i64 dc, .int .u8 (dl.toNat : Int)] 167)
  have hwz : (w.alloc (.cells #[.int .i64 t0, .int .i64 t1, .string (bs t2), .string (bs t3), .int .i64 t4, .slice tA tn tk, .int .u8 (s.toNat : Int), .int .i64 dc, .int .u8 (dl.toNat : Int)] 167)).heap.size = w.heap.size + 1 := by simp
  obtain ⟨w1, hw1⟩ : ∃ w1, w.alloc (.cells #[.int .i64 t0, .int .i64 t1, .string (bs t2), .string (bs t3), .int .i64 t4, .slice tA tn tk, .int .u8 (s.toNat : Int), .int .i64 dc, .int .u8 (dl.toNat : Int)] 167) = w1 := ⟨_, rfl⟩
  rw [hw1] at hwb hwn hwz
  have hss : (((s.toNat : Int)) == (s.toNat : Int)) = true := by simp
  have hkgw := (Array.getElem?_eq_some_iff.1 hkw).1
  replace h := Lib.hid h
  replace hw1 := Lib.hid hw1
  replace hkr := Lib.hid hkr
  replace hir := Lib.hid hir
  replace hkv := Lib.hid hkv
  replace hiv := Lib.hid hiv
  replace hwn := Lib.hid hwn
  replace hn := Lib.hid hn
  replace hX := Lib.hid hX
  replace hY := Lib.hid hY
  replace hni := Lib.hid hni
  replace hm := Lib.hid hm
  replace ht := Lib.hid ht
  replace hP := Lib.hid hP
  replace hK6 := Lib.hid hK6
  replace hl := Lib.hid hl
  replace hkk := Lib.hid hkk
  replace hik := Lib.hid hik
  replace hXi := Lib.hid hXi
  replace hkw := Lib.hid hkw
  clear hgc hgf hcl
  have s5 : w1.cell? ⟨g, P + 5, none⟩ = some (.slice (some ⟨kg, 0, none⟩) (m + 1) kc) := (hwb.cell (p := ⟨g, P + 5, none⟩) hgw).trans q5
  have s8 : w1.cell? ⟨g, P + 8, none⟩ = some (.int .u8 (s.toNat : Int)) := (hwb.cell (p := ⟨g, P + 8, none⟩) hgw).trans q8
  have sk : w1.cell? ⟨kg, K6 + 5, none⟩ = some (.slice iA ni ic) := (hwb.cell (p := ⟨kg, K6 + 5, none⟩) hkgw).trans hk5
  have sb : ∀ j u, [Value.int .i64 t0, .int .i64 t1, .string (bs t2), .string (bs t3), .int .i64 t4, .slice tA tn tk, .int .u8 (s.toNat : Int), .int .i64 dc, .int .u8 (dl.toNat : Int)][j]? = some u → w1.cell? ⟨w.heap.size, j, none⟩ = some u := fun j u hj => cell_of hwn.out hj
  have b6 := sb 6 _ rfl
  have hm0 : (0 : Int) ≤ (m : Int) := by omega
  have hm1 : (m : Int) < (m : Int) + 1 := by omega
  have hwm : IntKind.i64.wrap (m : Int) = (m : Int) := by unfold IntKind.wrap; simp [IntKind.bits, IntKind.signed]; omega
  clear q5 q8 hk5
  go_enter Tryz.func125, Tryz.ntmps125
  go_wp2_with fail
  rw [hw1.out]
  go_quiet (fail)
  have hbq : Below w.heap.size w (w1.drewN nq) := below_drewN hwb nq
  have hzq : (w1.drewN nq).heap.size = w.heap.size + 1 := hwz
  have hnq : (w1.drewN nq).heap[w.heap.size]? = _ := hwn.out
  have s5' : (w1.drewN nq).cell? ⟨g, P + 5, none⟩ = _ := s5
  have sk' : (w1.drewN nq).cell? ⟨kg, K6 + 5, none⟩ = _ := sk
  generalize w1.drewN nq = wa at hbq hzq hnq s5' sk' ⊢
  clear hwb hwz hwn hw1 s5 s8 sk sb b6 w1
  go_wp2_with fail
  go_quiet (fail)
  replace hbq : Below w.heap.size w (wa.drewN nq) := below_drewN hbq nq
  replace hzq : (wa.drewN nq).heap.size = w.heap.size + 1 := hzq
  replace hnq : (wa.drewN nq).heap[w.heap.size]? = _ := hnq
  replace sk' : (wa.drewN nq).cell? ⟨kg, K6 + 5, none⟩ = _ := sk'
  generalize wa.drewN nq = wb at hbq hzq hnq sk' ⊢
  clear s5'
  rw [hK6.out]
  go_wp2_with fail
  have sb : ∀ j u, [Value.int .i64 t0, .int .i64 t1, .string (bs t2), .string (bs t3), .int .i64 t4, .slice tA tn tk, .int .u8 (s.toNat : Int), .int .i64 dc, .int .u8 (dl.toNat : Int)][j]? = some u → wb.drew.cell? ⟨w.heap.size, j, none⟩ = some u := fun j u hj => cell_of (w := wb.drew) hnq hj
  have sk2 : wb.drew.cell? ⟨kg, K6 + 5, none⟩ = _ := sk'
  refine wp_region_bar 8 [(true, 0), (true, 1), (true, 2), (true, 3), (true, 4), (true, 5), (true, 6), (false, 7)] 5 (.rd 9 (.rd 11 (.rd 12 (.fk 10 (.mk 13 .fin) 13 (.mk 10 .fin))))) (Ext wb.drew) (Below.refl _ _) (by kernel_rfl) (by kernel_rfl) (by kernel_rfl) (fun _ _ d _ _ h => by cases d <;> exact h) ?_
  repeat (first | refine wpBar_move rfl ?_ | (refine wpBar_cons rfl ?_; intro K hK; go_simp; refine hK _ _ _ ?_; clear hK K))
  refine wpBar_read (.slice iA ni ic) rfl rfl (Below.refl _ _) (fun u hu => by have s5u := (Below.cell hu (p := ⟨kg, K6 + 5, none⟩) (by have := hbq.size; show kg < wb.heap.size; omega)).trans sk2; go_simp) ?_
  repeat (first | refine wpBar_move rfl ?_ | (refine wpBar_cons rfl ?_; intro K hK; go_simp; refine hK _ _ _ ?_; clear hK K))
  refine wpBar_read (.agg #[.int .i64 t0, .int .i64 t1, .string (bs t2), .string (bs t3), .int .i64 t4, .slice tA tn tk]) rfl rfl (Below.refl _ _) (fun u hu => by
    have hub := fun j v hj => (Below.cell hu (p := ⟨w.heap.size, j, none⟩) (by show w.heap.size < wb.heap.size; omega)).trans (sb j v hj)
    have u0 := hub 0 _ rfl
    have u1 := hub 1 _ rfl
    have u2 := hub 2 _ rfl
    have u3 := hub 3 _ rfl
    have u4 := hub 4 _ rfl
    have u5 := hub 5 _ rfl
    clear hub
    go_simp) ?_
  repeat (first | refine wpBar_move rfl ?_ | (refine wpBar_cons rfl ?_; intro K hK; go_simp; refine hK _ _ _ ?_; clear hK K))
  refine wpBar_cons rfl ?_
  intro K hK
  go_simp
  refine can_ext (ext_alloc _ _) (hK _ _ _ ?_)
  clear hK K
  have hBw : B ≤ w.heap.size := by omega
  obtain ⟨Z, hZ⟩ : ∃ Z : Array Value, #[Value.int .i64 0, .int .i64 0, .string ⟨#[]⟩, .string ⟨#[]⟩, .int .i64 0, .slice none 0 0] = Z := ⟨_, rfl⟩
  have hZ6 : Z.size = 1 * 6 := by rw [← hZ]; rfl
  have hZ1 : ∀ u ∈ Z.toList, u.oneCell' = true := by rw [← hZ]; intro u hu; simp at hu; rcases hu with rfl | rfl | rfl | rfl | rfl | rfl <;> rfl
  rw [hZ]
  have ho2 : (wb.alloc (.cells Z 149)).drew.ownsRow B 149 6 (.slice iA ni ic) ni Y := ((own_below hir.out hbq).alloc _).drew
  have hr2 : Row (wb.alloc (.cells Z 149)).drew (wb.alloc (.cells Z 149)).drew.heap.size 6 (some ⟨w.heap.size + 1, 0, none⟩) 1 Z.toList := by
    have := Row.freshN wb 149 Z hZ6 rfl
    rw [hzq] at this; exact this
  have hz2 : (wb.alloc (.cells Z 149)).drew.heap.size = w.heap.size + 2 := by show (wb.alloc _).heap.size = _; simp [hzq]
  have hb2 : Below w.heap.size w (wb.alloc (.cells Z 149)).drew := (ext_trans hbq (ext_alloc wb _)).drew
  generalize (wb.alloc (.cells Z 149)).drew = w2 at ho2 hr2 hz2 hb2 ⊢
  refine wpBar_bar rfl rfl ?_
  refine wp_app_row_at (v := .slice iA ni ic) (.tmp 28) (.tmp 32) rfl pblockEI rfl ho2 rfl hr2 hZ1 (by omega) (by omega) (by omega) ?_
  intro v w3 hown3 hg3 hb3 hat3
  obtain ⟨vg, vc, cur', rfl, hvc, hvB, hvw, _⟩ := own_block hown3 (by omega)
  subst hZ
  replace hown3 : w3.ownsRow B 149 6 (.slice (some ⟨vg, 0, none⟩) (ni + 1) vc) (ni + 1) (Y ++ ([.int .i64 0, .int .i64 0, .string ⟨#[]⟩, .string ⟨#[]⟩, .int .i64 0, .slice none 0 0] : List Value)) := hown3
  have hYl : Y.length = ni * 6 := hir.out.1
  have hvg : vg ≠ kg := fun e => by
    rcases hat3.out vg rfl with h1 | h1
    · exact hikg (by rw [h1, e])
    · omega
  have m1 := (h.out.hp.ext hb2).uput (k := .itm o.length) (.row 149 6 (.slice (some ⟨vg, 0, none⟩) (ni + 1) vc) (ni + 1) (Y ++ ([.int .i64 0, .int .i64 0, .string ⟨#[]⟩, .string ⟨#[]⟩, .int .i64 0, .slice none 0 0] : List Value))) hik.out hg3.out hown3 hat3.out
  have hr1 : upd (pparts E R (.slice (some ⟨g, 0, none⟩) (o.length + 1) c) lv pv M (x :: o) l ps) (.itm o.length) (.row 149 6 (.slice (some ⟨vg, 0, none⟩) (ni + 1) vc) (ni + 1) (Y ++ ([.int .i64 0, .int .i64 0, .string ⟨#[]⟩, .string ⟨#[]⟩, .int .i64 0, .slice none 0 0] : List Value))) (.kid o.length) = some (.row 149 6 (.slice (some ⟨kg, 0, none⟩) (m + 1) kc) (m + 1) X) := (upd_other _ _ (by simp)).trans hkk.out
  obtain ⟨P6, hP6⟩ : ∃ P6, ni * 6 = P6 := ⟨_, rfl⟩
  have hP6l : P6 ≤ 6000000000 := by omega
  have hfv := World.ownsRow.frozenAt hown3
  have hzc := fun j u (hj : [Value.int .i64 0, .int .i64 0, .string ⟨#[]⟩, .string ⟨#[]⟩, .int .i64 0, .slice none 0 0][j]? = some u) => own_cell (j := P6 + j) (u := u) hown3 (by rw [List.getElem?_append_right (by omega), hYl, hP6, Nat.add_sub_cancel_left]; exact hj)
  have z0 := hzc 0 _ rfl
  have z1 := hzc 1 _ rfl
  have z2 := hzc 2 _ rfl
  have z3 := hzc 3 _ rfl
  have z4 := hzc 4 _ rfl
  have z5 := hzc 5 _ rfl
  rw [Nat.add_zero] at z0
  have y5 : w3.cell? ⟨kg, K6 + 5, none⟩ = some (.slice iA ni ic) := own_cell (m1.own hr1) (by rw [← hK6.out, ← hni.out]; exact hXi.out)
  have hfg := World.ownsRow.frozenAt (m1.own hr1)
  have hb3' := (hb2.mono hBw).trans hb3
  have hpost : ∀ wf, Hp wf B (upd (upd (pparts E R (.slice (some ⟨g, 0, none⟩) (o.length + 1) c) lv pv M (x :: o) l ps) (.itm o.length) (.row 149 6 (.slice (some ⟨vg, 0, none⟩) (ni + 1) vc) (ni + 1) (Y ++ ([.int .i64 t0, .int .i64 t1, .string (bs t2), .string (bs t3), .int .i64 t4, .slice tA tn tk] : List Value)))) (.kid o.length) (.row 149 6 (.slice (some ⟨kg, 0, none⟩) (m + 1) kc) (m + 1) (X.set (K6 + 5) (.slice (some ⟨vg, 0, none⟩) (ni + 1) vc)))) →
      ∃ x', x'.c = { x.c with lst := some (s, ln, is ++ [t]) } ∧ PAt wf B E R (.slice (some ⟨g, 0, none⟩) (o.length + 1) c) lv pv M (x' :: o) l ps := by
    intro wf hw
    rw [← hkv.out, ← hn.out, ← hX.out, ← hK6.out, ← hm.out, ← hni.out, ← hY.out] at hw
    exact item_done h.out hl.out ht.out hw
  have hmA : ∀ a0 a1 a2 a3 a4 a5, Hp ((set6 w3 vg P6 a0 a1 a2 a3 a4 a5).setCell ⟨kg, K6 + 5, none⟩ (.slice (some ⟨vg, 0, none⟩) (ni + 1) vc)) B _ := fun a0 a1 a2 a3 a4 a5 => part_set (kid_put m1 (upd_same _ _ _) hYl hP6 a0 a1 a2 a3 a4 a5) ((upd_other _ _ (by simp)).trans hr1) (K6 + 5) _
  have hmB : ∀ a0 a1 a2 a3 a4 a5, Hp (set6 (w3.setCell ⟨kg, K6 + 5, none⟩ (.slice (some ⟨vg, 0, none⟩) (ni + 1) vc)) vg P6 a0 a1 a2 a3 a4 a5) B _ := fun a0 a1 a2 a3 a4 a5 => kid_put (part_set m1 hr1 (K6 + 5) _) ((upd_other _ _ (by simp)).trans (upd_same _ _ _)) hYl hP6 a0 a1 a2 a3 a4 a5
  have hfA := hpost _ ((hmA (.int .i64 t0) (.int .i64 t1) (.string (bs t2)) (.string (bs t3)) (.int .i64 t4) (.slice tA tn tk)).same fun j => by
    unfold upd; by_cases h1 : j = .kid o.length
    · simp [h1]
    · by_cases h2 : j = .itm o.length <;> simp [h1, h2])
  have hfB := hpost _ ((hmB (.int .i64 t0) (.int .i64 t1) (.string (bs t2)) (.string (bs t3)) (.int .i64 t4) (.slice tA tn tk)).same fun j => by
    unfold upd; by_cases h1 : j = .kid o.length
    · simp [h1]
    · by_cases h2 : j = .itm o.length <;> simp [h1, h2])
  have hbA := (set6_below hb3' hvB P6 (.int .i64 t0) (.int .i64 t1) (.string (bs t2)) (.string (bs t3)) (.int .i64 t4) (.slice tA tn tk)).setCell (p := ⟨kg, K6 + 5, none⟩) hkB (.slice (some ⟨vg, 0, none⟩) (ni + 1) vc)
  have hbB := (set6_below (hb3'.setCell (p := ⟨kg, K6 + 5, none⟩) hkB (.slice (some ⟨vg, 0, none⟩) (ni + 1) vc)) hvB P6 (.int .i64 t0) (.int .i64 t1) (.string (bs t2)) (.string (bs t3)) (.int .i64 t4) (.slice tA tn tk))
  replace hbA := Lib.hid hbA
  replace hbB := Lib.hid hbB
  replace hfA := Lib.hid hfA
  replace hfB := Lib.hid hfB
  replace m1 := Lib.hid m1
  clear hmA hmB hpost hr1 hzc
  have hn0 : (0 : Int) ≤ (ni : Int) := by omega
  have hn1 : (ni : Int) < (ni : Int) + 1 := by omega
  have hkgw3 : kg < w3.heap.size := by have := hg3.out.size; have := hb2.size; omega
  refine ⟨fun _ => True, trivial, ?_⟩
  repeat (first | refine wpT_move rfl ?_ | (refine wpT_rd rfl ?_; intro K hK; go_simp; refine hK _ _ _ ?_; clear hK K))
  refine wpT_fk ?_ ?_
  · refine wpT_mk rfl ?_
    intro K hK
    go_simp
    refine ⟨fun _ => True, trivial, hK _ _ _ ?_⟩
    clear hK K
    refine wpT_mk rfl ?_
    intro K hK
    go_simp
    refine ⟨fun _ => True, trivial, hK _ _ _ ?_⟩
    clear hK K
    refine wpT_fin ?_
    go_wp2_with fail
    go_returns
    exact ⟨rfl, hfA.out, hbA.out⟩
  · refine wpT_mk rfl ?_
    intro K hK
    go_simp
    refine ⟨fun _ => True, trivial, hK _ _ _ ?_⟩
    clear hK K
    refine wpT_mk rfl ?_
    intro K hK
    go_simp
    refine ⟨fun _ => True, trivial, hK _ _ _ ?_⟩
    clear hK K
    refine wpT_fin ?_
    go_wp2_with fail
    go_returns
    exact ⟨rfl, hfB.out, hbB.out⟩
end Go.Proofs.YtmmgfoepfapnkaaGreatDoor

namespace Go.Proofs.YtmmgfoepfapnkaaGreatDoor
open Go.RowKit
attribute [local go_sem] canOp readsAs readUpon

section
variable {w w' : World} {B R : Nat} {E : Nat → Option Part} {rv lv pv : Value} {M : Mm} {x : MC} {row : List MC} {o : List MC} {l : Pb.Of} {ps : List Bk.Pl}
/-- one part more beside the reader's, in a new block -/
theorem PAt.ext_in (h : PAt w B E R rv lv pv M row l ps) {a : Part} (hb : Below w.heap.size w w') (ha : a.holds w' B) (hat : ∀ g, a.block = some g → w.heap.size ≤ g) : PAt w' B (shiftE a E) R rv lv pv M row l ps := by
  have h' := h.hp.ext hb
  refine ⟨⟨fun k b hk => ?_, fun i j b c g hi hj hbi hcj => ?_⟩, h.good, h.old⟩
  · cases k with
    | ext i =>
      cases i with
      | zero => cases hk; exact ha
      | succ i => exact h'.holds (.ext i) b hk
    | rd => exact h'.holds .rd b hk
    | row => exact h'.holds .row b hk
    | kid i => exact h'.holds (.kid i) b hk
    | itm i => exact h'.holds (.itm i) b hk
    | lns => exact h'.holds .lns b hk
    | pls => exact h'.holds .pls b hk
    | old i => exact h'.holds (.old i) b hk
  · have key : ∀ (k : PKey) (b : Part), pparts (shiftE a E) R rv lv pv M row l ps k = some b → (k = .ext 0 ∧ b = a) ∨ ∃ k', pparts E R rv lv pv M row l ps k' = some b ∧ (k' = (match k with | .ext (i + 1) => .ext i | k => k)) ∧ k ≠ .ext 0 := by
      intro k b hk
      cases k with
      | ext i =>
        cases i with
        | zero => cases hk; exact .inl ⟨rfl, rfl⟩
        | succ i => exact .inr ⟨.ext i, hk, rfl, by simp⟩
      | rd => exact .inr ⟨.rd, hk, rfl, by simp⟩
      | row => exact .inr ⟨.row, hk, rfl, by simp⟩
      | kid i => exact .inr ⟨.kid i, hk, rfl, by simp⟩
      | itm i => exact .inr ⟨.itm i, hk, rfl, by simp⟩
      | lns => exact .inr ⟨.lns, hk, rfl, by simp⟩
      | pls => exact .inr ⟨.pls, hk, rfl, by simp⟩
      | old i => exact .inr ⟨.old i, hk, rfl, by simp⟩
    rcases key i b hi with ⟨rfl, rfl⟩ | ⟨i', hi', ei, ni⟩
    · rcases key j c hj with ⟨rfl, rfl⟩ | ⟨j', hj', ej, nj⟩
      · rfl
      · have := (Part.lt (h.hp.holds _ _ hj') hcj).2
        have := hat g hbi
        omega
    · rcases key j c hj with ⟨rfl, rfl⟩ | ⟨j', hj', ej, nj⟩
      · have := (Part.lt (h.hp.holds _ _ hi') hbi).2
        have := hat g hcj
        omega
      · have e := h.hp.apart i' j' b c g hi' hj' hbi hcj
        rw [ei, ej] at e
        cases i with
        | ext a1 =>
          cases a1 with
          | zero => exact absurd rfl ni
          | succ a1 =>
            cases j with
            | ext a2 =>
              cases a2 with
              | zero => exact absurd rfl nj
              | succ a2 => simp only [PKey.ext.injEq] at e; rw [e]
            | _ => simp at e
        | _ =>
          cases j with
          | ext a2 =>
            cases a2 with
            | zero => exact absurd rfl nj
            | succ a2 => simp at e
          | _ => exact e
theorem PAt.ext_out {a : Part} (h : PAt w B (shiftE a E) R rv lv pv M row l ps) : PAt w B E R rv lv pv M row l ps := by
  refine ⟨h.hp.turn (fun k => match k with | .ext i => .ext (i + 1) | k => k) (fun i j _ _ _ _ e => ?_) (fun k b hk => ?_), h.good, h.old⟩
  · cases i <;> cases j <;> simp_all
  · cases k with
    | ext i => exact ⟨b, hk, h.hp.holds (.ext (i + 1)) b hk, fun _ e => e⟩
    | rd => exact ⟨b, hk, h.hp.holds .rd b hk, fun _ e => e⟩
    | row => exact ⟨b, hk, h.hp.holds .row b hk, fun _ e => e⟩
    | kid i => exact ⟨b, hk, h.hp.holds (.kid i) b hk, fun _ e => e⟩
    | itm i => exact ⟨b, hk, h.hp.holds (.itm i) b hk, fun _ e => e⟩
    | lns => exact ⟨b, hk, h.hp.holds .lns b hk, fun _ e => e⟩
    | pls => exact ⟨b, hk, h.hp.holds .pls b hk, fun _ e => e⟩
    | old i => exact ⟨b, hk, h.hp.holds (.old i) b hk, fun _ e => e⟩
/-- the new list: its row is the container's from now on -/
theorem list_done {nb g c : Nat} (hg : rv = .slice (some ⟨g, 0, none⟩) (o.length + 1) c) {P : Nat} (hP : o.length * 9 = P) {t : Bk.Tree} {t0 t1 t4 : Int} {t2 t3 : List UInt8} {tA : Option Addr} {tn tk : Nat} (ht : TM M t [.int .i64 t0, .int .i64 t1, .string (bs t2), .string (bs t3), .int .i64 t4, .slice tA tn tk]) (s : UInt8) (ln : Nat)
    (h : AddRaw w B (shiftE (.blk nb #[.int .i64 t0, .int .i64 t1, .string (bs t2), .string (bs t3), .int .i64 t4, .slice tA tn tk] 149) E) R rv lv pv M x o l ps [.int .i64 2, .int .i64 0, .string ⟨#[]⟩, .string ⟨#[]⟩, .int .i64 (ln : Int), .slice (some ⟨nb, 0, none⟩) 1 1]) :
    B ≤ g ∧ g < w.heap.size ∧ (∀ j, w.frozen? ⟨g, j, none⟩ = false) ∧ w.cell? ⟨g, P + 8, none⟩ = some (.int .u8 0) ∧ (∀ i a, E i = some a → a.holds w B) ∧
    ∃ M' x', x'.c = { x.c with kids := x.c.all, lst := some (s, ln, [t]) } ∧ PAt (w.setCell ⟨g, P + 8, none⟩ (.int .u8 (s.toNat : Int))) B E R rv lv pv M' (x' :: o) l ps := by
  obtain ⟨M', cs', v, h1, h2, h3, h3', hgo, h4⟩ := h
  subst hg
  have hr := (gone_ne (m := upd (upd (pparts (shiftE (.blk nb #[.int .i64 t0, .int .i64 t1, .string (bs t2), .string (bs t3), .int .i64 t4, .slice tA tn tk] 149) E) R (.slice (some ⟨g, 0, none⟩) (o.length + 1) c) lv pv M (x :: o) l ps) (.kid o.length) (.row 149 6 v (x.c.all.length + 1) (x.css.flatten ++ lstCells x.lv x.c.lst ++ ([.int .i64 2, .int .i64 0, .string ⟨#[]⟩, .string ⟨#[]⟩, .int .i64 (ln : Int), .slice (some ⟨nb, 0, none⟩) 1 1] : List Value)))) .row (.row 167 9 (.slice (some ⟨g, 0, none⟩) (o.length + 1) c) (o.length + 1) (rowCells o ++ [.int .i64 (x.c.kind : Int), .int .i64 0, .string ⟨#[]⟩, .string ⟨#[]⟩, .int .i64 (x.c.line : Int), v, .int .u8 (x.c.sign.toNat : Int), .int .i64 (x.c.col : Int), .int .u8 0]))) (M' := M') (k := .itm o.length) (j := .row) (fun b e => by cases e) (fun e => by cases e)).trans (upd_same _ _ _)
  have ho := h4.own hr
  obtain ⟨hgB, hgw⟩ := World.ownsRow.lt ho g rfl
  refine ⟨hgB, hgw, World.ownsRow.frozenAt ho, own_cell ho ?_, fun i a hi => h4.holds (.ext (i + 1)) a (by rw [gone_ne (fun b e => by cases e) (by simp), upd_other _ _ (by simp), upd_other _ _ (by simp)]; exact hi), ?_⟩
  · rw [List.getElem?_append_right (by rw [rowCells_len]; omega), rowCells_len, show P + 8 - o.length * 9 = 8 from by omega]; rfl
  have m1 := part_set h4 hr (P + 8) (.int .u8 (s.toNat : Int))
  have hz : (rowCells o ++ ([.int .i64 (x.c.kind : Int), .int .i64 0, .string ⟨#[]⟩, .string ⟨#[]⟩, .int .i64 (x.c.line : Int), v, .int .u8 (x.c.sign.toNat : Int), .int .i64 (x.c.col : Int), .int .u8 0] : List Value)).set (P + 8) (.int .u8 (s.toNat : Int)) = rowCells o ++ ([.int .i64 (x.c.kind : Int), .int .i64 0, .string ⟨#[]⟩, .string ⟨#[]⟩, .int .i64 (x.c.line : Int), v, .int .u8 (x.c.sign.toNat : Int), .int .i64 (x.c.col : Int), .int .u8 (s.toNat : Int)] : List Value) := by
    rw [← hP, ← rowCells_len]; simp
  rw [hz] at m1
  refine ⟨M', ⟨{ x.c with kids := x.c.all, lst := some (s, ln, [t]) }, v, cs', .slice (some ⟨nb, 0, none⟩) 1 1, [[.int .i64 t0, .int .i64 t1, .string (bs t2), .string (bs t3), .int .i64 t4, .slice tA tn tk]]⟩, rfl, ⟨?_, fun y hy => ?_, h2⟩⟩
  · refine m1.turn (fun k => match k with
      | .itm i => if i = o.length then .ext 0 else .itm i
      | .ext i => .ext (i + 1)
      | k => k) (fun i j a b hi hj e => ?_) (fun k a hk => ?_)
    · cases i with
      | itm i1 =>
        by_cases h5 : i1 = o.length
        · cases j with
          | itm j1 =>
            by_cases h6 : j1 = o.length
            · rw [h5, h6]
            · simp [h5, h6] at e
          | _ => simp [h5] at e
        · cases j with
          | itm j1 =>
            by_cases h6 : j1 = o.length
            · simp [h5, h6] at e
            · simpa [h5, h6] using e
          | _ => simp [h5] at e
      | _ =>
        cases j with
        | itm j1 =>
          by_cases h6 : j1 = o.length
          · simp [h6] at e
          · simp [h6] at e
        | _ => simp_all
    · cases k with
      | itm i =>
        by_cases hi : i = o.length
        · subst hi
          simp only [if_true]
          have e0 : upd (gone (upd (upd (pparts (shiftE (.blk nb #[.int .i64 t0, .int .i64 t1, .string (bs t2), .string (bs t3), .int .i64 t4, .slice tA tn tk] 149) E) R (.slice (some ⟨g, 0, none⟩) (o.length + 1) c) lv pv M (x :: o) l ps) (.kid o.length) (.row 149 6 v (x.c.all.length + 1) (x.css.flatten ++ lstCells x.lv x.c.lst ++ ([.int .i64 2, .int .i64 0, .string ⟨#[]⟩, .string ⟨#[]⟩, .int .i64 (ln : Int), .slice (some ⟨nb, 0, none⟩) 1 1] : List Value)))) .row (.row 167 9 (.slice (some ⟨g, 0, none⟩) (o.length + 1) c) (o.length + 1) (rowCells o ++ [.int .i64 (x.c.kind : Int), .int .i64 0, .string ⟨#[]⟩, .string ⟨#[]⟩, .int .i64 (x.c.line : Int), v, .int .u8 (x.c.sign.toNat : Int), .int .i64 (x.c.col : Int), .int .u8 0]))) M' (.itm o.length)) .row (.row 167 9 (.slice (some ⟨g, 0, none⟩) (o.length + 1) c) (o.length + 1) (rowCells o ++ ([.int .i64 (x.c.kind : Int), .int .i64 0, .string ⟨#[]⟩, .string ⟨#[]⟩, .int .i64 (x.c.line : Int), v, .int .u8 (x.c.sign.toNat : Int), .int .i64 (x.c.col : Int), .int .u8 (s.toNat : Int)] : List Value))) (.ext 0) = some (.blk nb #[.int .i64 t0, .int .i64 t1, .string (bs t2), .string (bs t3), .int .i64 t4, .slice tA tn tk] 149) := by
            rw [upd_other _ _ (by simp), gone_ne (fun b e => by cases e) (fun e => by cases e), upd_other _ _ (by simp), upd_other _ _ (by simp)]; rfl
          have hb0 := m1.holds _ _ e0
          refine ⟨_, e0, ?_, ?_⟩
          · have hk' : itmRow (⟨{ x.c with kids := x.c.all, lst := some (s, ln, [t]) }, v, cs', .slice (some ⟨nb, 0, none⟩) 1 1, [[.int .i64 t0, .int .i64 t1, .string (bs t2), .string (bs t3), .int .i64 t4, .slice tA tn tk]]⟩ : MC) = some a := by
              rw [← hk]
              show _ = (lev (_ :: o) o.length).bind itmRow
              rw [lev_top]; rfl
            cases hk'
            refine ⟨rfl, .inr ⟨nb, 1, _, rfl, hb0.1, hb0.2, Nat.le_refl _, by unfold maxLen; omega, rfl, rfl⟩⟩
          · intro g' hg'
            have hk' : itmRow (⟨{ x.c with kids := x.c.all, lst := some (s, ln, [t]) }, v, cs', .slice (some ⟨nb, 0, none⟩) 1 1, [[.int .i64 t0, .int .i64 t1, .string (bs t2), .string (bs t3), .int .i64 t4, .slice tA tn tk]]⟩ : MC) = some a := by
              rw [← hk]
              show _ = (lev (_ :: o) o.length).bind itmRow
              rw [lev_top]; rfl
            cases hk'
            exact hg'
        · simp only [if_neg hi]
          have e0 := hk
          have hk' : (lev (x :: o) i).bind itmRow = some a := by have h9 : (lev (_ :: o) i).bind itmRow = some a := hk; rw [lev_low _ x o hi] at h9; exact h9
          refine ⟨a, ?_, m1.holds (.itm i) a ?_, fun _ e => e⟩ <;>
            (rw [upd_other _ _ (by simp), gone_ne (fun b e => by cases e) (by simpa using hi), upd_other _ _ (by simp), upd_other _ _ (by simp)]; exact hk')
      | kid i =>
        by_cases hi : i = o.length
        · subst hi
          have hk' : kidRow (⟨{ x.c with kids := x.c.all, lst := some (s, ln, [t]) }, v, cs', .slice (some ⟨nb, 0, none⟩) 1 1, [[.int .i64 t0, .int .i64 t1, .string (bs t2), .string (bs t3), .int .i64 t4, .slice tA tn tk]]⟩ : MC) = a := by
            have : (lev (_ :: o) o.length).map kidRow = some a := hk
            rw [lev_top] at this
            exact Option.some.inj this
          have e1 : kidRow (⟨{ x.c with kids := x.c.all, lst := some (s, ln, [t]) }, v, cs', .slice (some ⟨nb, 0, none⟩) 1 1, [[.int .i64 t0, .int .i64 t1, .string (bs t2), .string (bs t3), .int .i64 t4, .slice tA tn tk]]⟩ : MC) = .row 149 6 v (x.c.all.length + 1) (x.css.flatten ++ lstCells x.lv x.c.lst ++ ([.int .i64 2, .int .i64 0, .string ⟨#[]⟩, .string ⟨#[]⟩, .int .i64 (ln : Int), .slice (some ⟨nb, 0, none⟩) 1 1] : List Value)) := by
            show Part.row _ 6 v (x.c.all ++ [_]).length (cs'.flatten ++ _) = _
            rw [h3', List.length_append]; rfl
          rw [e1] at hk'
          subst hk'
          refine ⟨_, ?_, m1.holds (.kid o.length) _ ?_, fun _ e => e⟩ <;>
            (rw [upd_other _ _ (by simp), gone_ne (fun b e => by cases e) (by simp), upd_other _ _ (by simp), upd_same])
        · have hk' : (lev (x :: o) i).map kidRow = some a := by have h9 : (lev (_ :: o) i).map kidRow = some a := hk; rw [lev_low _ x o hi] at h9; exact h9
          refine ⟨a, ?_, m1.holds (.kid i) a ?_, fun _ e => e⟩ <;>
            (rw [upd_other _ _ (by simp), gone_ne (fun b e => by cases e) (by simp), upd_other _ _ (by simp), upd_other _ _ (by simpa using hi)]; exact hk')
      | row => refine ⟨a, ?_, m1.holds .row a ?_, fun _ e => e⟩ <;> (rw [upd_same]; exact hk)
      | old b => refine ⟨a, ?_, m1.holds (.old b) a ?_, fun _ e => e⟩ <;> (rw [upd_other _ _ (by simp)]; exact hk)
      | ext i =>
        refine ⟨a, ?_, m1.holds (.ext (i + 1)) a ?_, fun _ e => e⟩ <;>
          (rw [upd_other _ _ (by simp), gone_ne (fun b e => by cases e) (by simp), upd_other _ _ (by simp), upd_other _ _ (by simp)]; exact hk)
      | rd =>
        refine ⟨a, ?_, m1.holds .rd a ?_, fun _ e => e⟩ <;>
          (rw [upd_other _ _ (by simp), gone_ne (fun b e => by cases e) (by simp), upd_other _ _ (by simp), upd_other _ _ (by simp)]; exact hk)
      | lns =>
        refine ⟨a, ?_, m1.holds .lns a ?_, fun _ e => e⟩ <;>
          (rw [upd_other _ _ (by simp), gone_ne (fun b e => by cases e) (by simp), upd_other _ _ (by simp), upd_other _ _ (by simp)]; exact hk)
      | pls =>
        refine ⟨a, ?_, m1.holds .pls a ?_, fun _ e => e⟩ <;>
          (rw [upd_other _ _ (by simp), gone_ne (fun b e => by cases e) (by simp), upd_other _ _ (by simp), upd_other _ _ (by simp)]; exact hk)
  · rcases List.mem_cons.1 hy with rfl | hy
    · exact ⟨h3, fun _ _ _ e => by cases e; exact TMs_snoc TMs_nil (TM_mono h1 ht)⟩
    · exact hgo y hy
end

set_option maxHeartbeats 1000000 in
set_option maxRecDepth 100000 in
theorem pitem_new (w : World) (B : Nat) (E : Nat → Option Part) (R : Nat) (rv lv pv : Value) (M : Mm) (x : MC) (o : List MC) (l : Pb.Of) (ps : List Bk.Pl) (h : PAt w B E R rv lv pv M (x :: o) l ps) (g c : Nat) (hg : rv = .slice (some ⟨g, 0, none⟩) (o.length + 1) c)
    (s : UInt8) (ln : Nat) (hne : x.c.listSign ≠ s) (t : Bk.Tree) (t0 t1 : Int) (t2 t3 : List UInt8) (tA : Option Addr) (tn tk : Nat) (ht : TM M t [.int .i64 t0, .int .i64 t1, .string (bs t2), .string (bs t3), .int .i64 (ln : Int), .slice tA tn tk]) (dc : Int) (dl : UInt8)
    (hlen : o.length ≤ 1000) (hkids : x.c.all.length ≤ 1000000000) :
    Calls Tryz.prog 125 #[.pointer (some ⟨g, o.length * 9, none⟩), .agg #[.int .i64 t0, .int .i64 t1, .string (bs t2), .string (bs t3), .int .i64 (ln : Int), .slice tA tn tk, .int .u8 (s.toNat : Int), .int .i64 dc, .int .u8 (dl.toNat : Int)]] w fun e w' =>
      e = .returned (.tuple #[]) ∧ (∃ M' x', x'.c = { x.c with kids := x.c.all, lst := some (s, ln, [t]) } ∧ PAt w' B E R rv lv pv M' (x' :: o) l ps) ∧ Below B w w' := by
  obtain ⟨hR1, hR2, _⟩ := rd_facts h
  obtain ⟨g', c', e', _, hgR, hgB, hgw, hgf, hgc⟩ := row_facts h
  rw [hg] at e'
  cases e'
  have q8 := hgc 8 _ rfl
  obtain ⟨P, hP⟩ : ∃ P, o.length * 9 = P := ⟨_, rfl⟩
  have hPl : P ≤ 9000 := by omega
  rw [hP] at q8
  have hwb := ext_alloc w (.cells #[.int .i64 t0, .int .i64 t1, .string (bs t2), .string (bs t3), .int .i64 (ln : Int), .slice tA tn tk, .int .u8 (s.toNat : Int), .int .i64 dc, .int .u8 (dl.toNat : Int)] 167)
  have hwn := heap_alloc_new w (.cells #[.int .i64 t0, .int .i64 t1, .string (bs t2), .string (bs t3), .int .i64 (ln : Int), .slice tA tn tk, .int .u8 (s.toNat : Int), .int .i64 dc, .int .u8 (dl.toNat : Int)] 167)
  have hwz : (w.alloc (.cells #[.int .i64 t0, .int .i64 t1, .string (bs t2), .string (bs t3), .int .i64 (ln : Int), .slice tA tn tk, .int .u8 (s.toNat : Int), .int .i64 dc, .int .u8 (dl.toNat : Int)] 167)).heap.size = w.heap.size + 1 := by simp
  obtain ⟨w1, hw1⟩ : ∃ w1, w.alloc (.cells #[.int .i64 t0, .int .i64 t1, .string (bs t2), .string (bs t3), .int .i64 (ln : Int), .slice tA tn tk, .int .u8 (s.toNat : Int), .int .i64 dc, .int .u8 (dl.toNat : Int)] 167) = w1 := ⟨_, rfl⟩
  rw [hw1] at hwb hwn hwz
  obtain ⟨ls, hls⟩ : ∃ ls, x.c.listSign = ls := ⟨_, rfl⟩
  rw [hls] at hne q8
  have hss : (((ls.toNat : Int)) == (s.toNat : Int)) = false := byte_diff hne
  have hBw : B ≤ w.heap.size := by omega
  replace h := Lib.hid h
  replace hw1 := Lib.hid hw1
  replace hwn := Lib.hid hwn
  replace ht := Lib.hid ht
  replace hg := Lib.hid hg
  replace hls := Lib.hid hls
  clear hgc hgf
  have s8 : w1.cell? ⟨g, P + 8, none⟩ = some (.int .u8 (ls.toNat : Int)) := (hwb.cell (p := ⟨g, P + 8, none⟩) hgw).trans q8
  have b6 : w1.cell? ⟨w.heap.size, 6, none⟩ = some (.int .u8 (s.toNat : Int)) := cell_of hwn.out rfl
  clear q8
  go_enter Tryz.func125, Tryz.ntmps125
  rw [hP]
  go_wp2_with fail
  rw [hw1.out]
  go_quiet (fail)
  have hbq : Below w.heap.size w (w1.drewN nq) := below_drewN hwb nq
  have hzq : (w1.drewN nq).heap.size = w.heap.size + 1 := hwz
  have hnq : (w1.drewN nq).heap[w.heap.size]? = _ := hwn.out
  generalize w1.drewN nq = wa at hbq hzq hnq ⊢
  clear hwb hwz hwn hw1 s8 b6 w1
  have b0 := cell_of hnq (j := 0) rfl
  have b1 := cell_of hnq (j := 1) rfl
  have b2 := cell_of hnq (j := 2) rfl
  have b3 := cell_of hnq (j := 3) rfl
  have b4 := cell_of hnq (j := 4) rfl
  have b5 := cell_of hnq (j := 5) rfl
  have b6 := cell_of hnq (j := 6) rfl
  replace hnq := Lib.hid hnq
  go_wp2_with fail
  have hA0 := h.out.ext_in hbq (a := .blk w.heap.size #[.int .i64 t0, .int .i64 t1, .string (bs t2), .string (bs t3), .int .i64 (ln : Int), .slice tA tn tk, .int .u8 (s.toNat : Int), .int .i64 dc, .int .u8 (dl.toNat : Int)] 167) ⟨hBw, hnq.out⟩ (fun g hg => by cases hg; omega)
  have hbA := ext_trans hbq (ext_alloc wa (.cells #[.int .i64 t0, .int .i64 t1, .string (bs t2), .string (bs t3), .int .i64 (ln : Int), .slice tA tn tk] 149))
  have hA := hA0.ext_in (ext_alloc wa (.cells #[.int .i64 t0, .int .i64 t1, .string (bs t2), .string (bs t3), .int .i64 (ln : Int), .slice tA tn tk] 149)) (a := .blk (w.heap.size + 1) #[.int .i64 t0, .int .i64 t1, .string (bs t2), .string (bs t3), .int .i64 (ln : Int), .slice tA tn tk] 149) ⟨by omega, by rw [← hzq]; exact heap_alloc_new wa _⟩ (fun g hg => by cases hg; omega)
  have hzA : (wa.alloc (.cells #[.int .i64 t0, .int .i64 t1, .string (bs t2), .string (bs t3), .int .i64 (ln : Int), .slice tA tn tk] 149)).heap.size = w.heap.size + 2 := by simp [hzq]
  clear hbq b0 b1 b2 b3 b4 b5 b6 hA0
  generalize wa.alloc (.cells #[.int .i64 t0, .int .i64 t1, .string (bs t2), .string (bs t3), .int .i64 (ln : Int), .slice tA tn tk] 149) = wc at hbA hA hzA ⊢
  have hcall := padd_raw wc B _ R rv lv pv M x o l ps hA g c hg.out 2 0 (ln : Int) [] [] (some ⟨w.heap.size + 1, 0, none⟩) 1 1 hlen hkids
  rw [hP] at hcall
  refine hcall.mono ?_
  clear hcall
  rintro e w3 ⟨rfl, hraw, hb3⟩
  obtain ⟨k1, k2, k3, k4, k5, M', x', hx', hPA⟩ := list_done hg.out hP ht.out s ln hraw
  obtain ⟨_, hn3⟩ := k5 0 _ rfl
  have b6 := cell_of hn3 (j := 6) rfl
  have hres := Lib.hid (⟨M', x', hx', hPA.ext_out⟩ : ∃ M' x', x'.c = { x.c with kids := x.c.all, lst := some (s, ln, [t]) } ∧ PAt (w3.setCell ⟨g, P + 8, none⟩ (.int .u8 (s.toNat : Int))) B E R rv lv pv M' (x' :: o) l ps)
  have hbf := Lib.hid (((hbA.mono hBw).trans hb3).setCell (p := ⟨g, P + 8, none⟩) k1 (.int .u8 (s.toNat : Int)))
  clear hn3 hPA hraw hA
  go_wp2_with fail
  go_returns
  exact ⟨rfl, hres.out, hbf.out⟩
end Go.Proofs.YtmmgfoepfapnkaaGreatDoor
