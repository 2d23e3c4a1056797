/- Memory of a call's own, part by part: blocks of a struct and rows, each in a block of its own, by keys. No function of the program is spoken of here. -/
import Derived.Test.YtjkmhcolnidflaaTwo
import Derived.Test.YtjkmhcolnidflaaBlk
namespace Go.Proofs.Ytjkmhcolnidflaa
open Go.RowKit

/-- a struct's block, or a row -/
inductive Part
  | blk (g : Nat) (cs : Array Value) (t : TypeId)
  | row (e : TypeId) (size : Nat) (v : Value) (n : Nat) (xs : List Value)
def Part.holds (w : World) (B : Nat) : Part → Prop
  | .blk g cs t => B ≤ g ∧ w.heap[g]? = some (.cells cs t (0, 0))
  | .row e size v n xs => w.ownsRow B e size v n xs
def Part.block : Part → Option Nat
  | .blk g _ _ => some g
  | .row _ _ v _ _ => v.ownBlock
/-- all parts lie, each in a block of its own -/
structure Hp {K : Type} (w : World) (B : Nat) (m : K → Option Part) : Prop where
  holds : ∀ k a, m k = some a → a.holds w B
  apart : ∀ k k' a a' g, m k = some a → m k' = some a' → a.block = some g → a'.block = some g → k = k'

theorem Part.lt {w : World} {B : Nat} {a : Part} (h : a.holds w B) {g : Nat} (hg : a.block = some g) : B ≤ g ∧ g < w.heap.size := by
  cases a with
  | blk g' cs t =>
    simp only [Part.block, Option.some.injEq] at hg
    subst hg
    exact ⟨h.1, (Array.getElem?_eq_some_iff.1 h.2).1⟩
  | row e size v n xs => exact World.ownsRow.lt (show w.ownsRow B e size v n xs from h) g hg
theorem Part.kept {w w' : World} {B : Nat} {a : Part} (h : a.holds w B) {row : Option Nat} (hg : w.grownBy w' row) (hne : a.block = none ∨ a.block ≠ row) : a.holds w' B := by
  cases a with
  | blk g cs t =>
    refine ⟨h.1, ?_⟩
    rw [hg.block g (Array.getElem?_eq_some_iff.1 h.2).1 (by rcases hne with h | h; · cases h
                                                            · exact h)]
    exact h.2
  | row e size v n xs => exact World.ownsRow.kept (show w.ownsRow B e size v n xs from h) hg hne
theorem grown_ext {w w' : World} (hb : Below w.heap.size w w') (row : Option Nat) : w.grownBy w' row := ⟨hb.os, hb.tape, hb.output, hb.size, fun k hk _ => hb.block k hk⟩
theorem grown_set (w : World) (a : Addr) (v : Value) : w.grownBy (w.setCell a v) (some a.block) := by
  have hb : Below 0 w (w.setCell a v) := (Below.refl 0 w).setCell (Nat.zero_le _) v
  exact ⟨hb.os, hb.tape, hb.output, hb.size, fun k _ hne => Below.heap_setCell _ _ _ _ (fun e => hne (by rw [e]))⟩

section
variable {K : Type} {w w' : World} {B : Nat} {m : K → Option Part}
theorem Hp.ext (h : Hp w B m) (hb : Below w.heap.size w w') : Hp w' B m := by
  refine ⟨fun k a ha => ?_, h.apart⟩
  have := h.holds k a ha
  cases a with
  | blk g cs t => exact ⟨this.1, (hb.block g (Array.getElem?_eq_some_iff.1 this.2).1).trans this.2⟩
  | row e size v n xs => exact own_below (show w.ownsRow B e size v n xs from this) hb
/-- one part is another one: it lies where it lay, or in a new block -/
theorem Hp.put (h : Hp w B m) {m' : K → Option Part} {k : K} {a a' : Part} (hk : m k = some a) (hg : w.grownBy w' a.block) (ha : a'.holds w' B)
    (hat : ∀ g, a'.block = some g → a.block = some g ∨ w.heap.size ≤ g) (hm : ∀ j, j ≠ k → m' j = m j) (hk' : m' k = some a') : Hp w' B m' := by
  refine ⟨fun j b hb => ?_, fun i j b c g hi hj hbi hbj => ?_⟩
  · by_cases hjk : j = k
    · subst hjk; rw [hk'] at hb; cases hb; exact ha
    · rw [hm j hjk] at hb
      refine Part.kept (h.holds j b hb) hg ?_
      cases hbo : b.block with
      | none => exact .inl rfl
      | some g => exact .inr fun he => hjk (h.apart j k b a g hb hk hbo he.symm)
  · by_cases hik : i = k
    · by_cases hjk : j = k
      · rw [hik, hjk]
      · subst hik
        rw [hk'] at hi; cases hi
        rw [hm j hjk] at hj
        rcases hat g hbi with h1 | h1
        · exact h.apart i j a c g hk hj h1 hbj
        · exact absurd (Part.lt (h.holds j c hj) hbj).2 (by omega)
    · by_cases hjk : j = k
      · subst hjk
        rw [hk'] at hj; cases hj
        rw [hm i hik] at hi
        rcases hat g hbj with h1 | h1
        · exact h.apart i j b a g hi hk hbi h1
        · exact absurd (Part.lt (h.holds i b hi) hbi).2 (by omega)
      · rw [hm i hik] at hi; rw [hm j hjk] at hj
        exact h.apart i j b c g hi hj hbi hbj
/-- one part more, in a new block -/
theorem Hp.more (h : Hp w B m) {m' : K → Option Part} {k : K} {a' : Part} (hk : m k = none) (hb : Below w.heap.size w w') (ha : a'.holds w' B)
    (hat : ∀ g, a'.block = some g → w.heap.size ≤ g) (hm : ∀ j, j ≠ k → m' j = m j) (hk' : m' k = some a') : Hp w' B m' := by
  have h' := h.ext hb
  refine ⟨fun j b hb => ?_, fun i j b c g hi hj hbi hbj => ?_⟩
  · by_cases hjk : j = k
    · subst hjk; rw [hk'] at hb; cases hb; exact ha
    · rw [hm j hjk] at hb; exact h'.holds j b hb
  · by_cases hik : i = k
    · by_cases hjk : j = k
      · rw [hik, hjk]
      · subst hik
        rw [hk'] at hi; cases hi
        rw [hm j hjk] at hj
        exact absurd (Part.lt (h.holds j c hj) hbj).2 (by have := hat g hbi; omega)
    · by_cases hjk : j = k
      · subst hjk
        rw [hk'] at hj; cases hj
        rw [hm i hik] at hi
        exact absurd (Part.lt (h.holds i b hi) hbi).2 (by have := hat g hbj; omega)
      · rw [hm i hik] at hi; rw [hm j hjk] at hj
        exact h.apart i j b c g hi hj hbi hbj
/-- a store into a struct -/
theorem Hp.store (h : Hp w B m) {m' : K → Option Part} {k : K} {g j : Nat} {cs : Array Value} {t : TypeId} {v : Value} (hk : m k = some (.blk g cs t))
    (hm : ∀ j, j ≠ k → m' j = m j) (hk' : m' k = some (.blk g (cs.setIfInBounds j v) t)) : Hp (w.setCell ⟨g, j, none⟩ v) B m' := by
  have hh : Part.holds w B (.blk g cs t) := h.holds k _ hk
  exact h.put (a' := .blk g (cs.setIfInBounds j v) t) hk (grown_set w ⟨g, j, none⟩ v) ⟨hh.1, heap_setCell_same w g j cs t v hh.2⟩ (fun _ h => .inl h) hm hk'
theorem Hp.same (h : Hp w B m) {m' : K → Option Part} (hm : ∀ k, m' k = m k) : Hp w B m' := by
  rw [show m' = m from funext hm]; exact h
theorem Hp.base (h : Hp w B m) {k : K} {g : Nat} {cs : Array Value} {t : TypeId} (hk : m k = some (.blk g cs t)) : B ≤ g ∧ g < w.heap.size ∧ w.heap[g]? = some (.cells cs t (0, 0)) := by
  have hh : Part.holds w B (.blk g cs t) := h.holds k _ hk
  exact ⟨hh.1, (Array.getElem?_eq_some_iff.1 hh.2).1, hh.2⟩
theorem Hp.own (h : Hp w B m) {k : K} {e : TypeId} {size n : Nat} {v : Value} {xs : List Value} (hk : m k = some (.row e size v n xs)) : w.ownsRow B e size v n xs := h.holds k _ hk
end

/-- one part in another one's place -/
def upd {K : Type} [DecidableEq K] (m : K → Option Part) (k : K) (a : Part) : K → Option Part := fun j => if j = k then some a else m j
section
variable {K : Type} [DecidableEq K] {w w' : World} {B : Nat} {m : K → Option Part}
theorem upd_same (m : K → Option Part) (k : K) (a : Part) : upd m k a k = some a := if_pos rfl
theorem upd_other (m : K → Option Part) {k j : K} (a : Part) (h : j ≠ k) : upd m k a j = m j := if_neg h
theorem Hp.uput (h : Hp w B m) {k : K} {a : Part} (a' : Part) (hk : m k = some a) (hg : w.grownBy w' a.block) (ha : a'.holds w' B)
    (hat : ∀ g, a'.block = some g → a.block = some g ∨ w.heap.size ≤ g) : Hp w' B (upd m k a') :=
  h.put hk hg ha hat (fun _ hj => upd_other m a' hj) (upd_same m k a')
theorem Hp.umore (h : Hp w B m) {k : K} (a' : Part) (hk : m k = none) (hb : Below w.heap.size w w') (ha : a'.holds w' B)
    (hat : ∀ g, a'.block = some g → w.heap.size ≤ g) : Hp w' B (upd m k a') :=
  h.more hk hb ha hat (fun _ hj => upd_other m a' hj) (upd_same m k a')
theorem Hp.ustore (h : Hp w B m) {k : K} {g : Nat} {cs : Array Value} {t : TypeId} (j : Nat) (v : Value) (hk : m k = some (.blk g cs t)) :
    Hp (w.setCell ⟨g, j, none⟩ v) B (upd m k (.blk g (cs.setIfInBounds j v) t)) :=
  h.store hk (fun _ hj => upd_other m _ hj) (upd_same m k _)
end
theorem ext_grown {w w' : World} {g : Nat} (h : w.grownBy w' (some g)) (hg : w.heap.size ≤ g) : Below w.heap.size w w' :=
  ⟨h.os, h.tape, h.output, h.size, fun k hk => h.block k hk (fun e => by cases e; omega)⟩
theorem Row.take {w : World} {B size n k : Nat} {A : Option Addr} {xs : List Value} (h : Row w B size A n xs) (hk : k ≤ n) : Row w B size A k (xs.take (k * size)) := by
  refine ⟨?_, fun hp => ?_⟩
  · rw [List.length_take, h.1]
    exact Nat.min_eq_left (Nat.mul_le_mul_right size hk)
  · obtain ⟨b, o, hA, hb, hc⟩ := h.2 (by omega)
    refine ⟨b, o, hA, hb, fun j u hj => hc j u ?_⟩
    rw [List.getElem?_take] at hj
    split at hj
    · exact hj
    · cases hj

theorem cell_of {w : World} {g j : Nat} {cs : List Value} {t : TypeId} {fr : Nat × Nat} {v : Value} (h : w.heap[g]? = some (.cells ⟨cs⟩ t fr)) (hj : cs[j]? = some v) : w.cell? ⟨g, j, none⟩ = some v := by
  rw [blk_cell h j]; simpa using hj
/-- a row in a new block -/
theorem Row.freshN (w : World) (E : TypeId) (C : Array Value) {size n : Nat} {xs : List Value} (hn : C.size = n * size) (hx : C.toList = xs) :
    Row (w.alloc (.cells C E)) (w.alloc (.cells C E)).heap.size size (some ⟨w.heap.size, 0, none⟩) n xs := by
  subst hx
  refine ⟨by simpa using hn, fun _ => ⟨w.heap.size, 0, rfl, by simp, fun j u hu => ?_⟩⟩
  rw [blk_cell (heap_alloc_new w _)]
  simpa using hu
/-- append of a row, nil or not; and where it lies then -/
theorem run_app_row_at {P : Program} {w : World} {T ty : TypeId} {E : TypeId} {size bytes : Nat} (hE : EI P T E size bytes) {base n : Nat} {v : Value} {xs : List Value} (hown : w.ownsRow base E size v n xs)
    {B m c : Nat} {A : Option Addr} {news : List Value} (hr : Row w B size A m news) (h1 : ∀ u ∈ news, u.oneCell' = true) (h63 : n + m ≤ 1000000000000) (hbytes : bytes ≤ 100) (hbase : base ≤ w.heap.size) :
    ∃ v' w', (Builtin.append_ #[T, T] ty #[v, .slice A m c]).run P w = .ok v' w' ∧ w'.ownsRow base E size v' (n + m) (xs ++ news) ∧ w.grownBy w' v.ownBlock ∧ At w.heap.size v v' := by
  obtain ⟨i, z, hi, hz, hs1, hs2, hs3⟩ := hE.info
  rcases Nat.eq_zero_or_pos m with h0 | h0
  · subst h0
    have hn : news = [] := List.eq_nil_of_length_eq_zero (by simpa using hr.1)
    subst hn
    refine ⟨v, w, ?_, by simpa using hown, World.grownBy.refl w _, fun _ h => .inl h⟩
    rcases A with _ | ad
    · rcases hown.2 with ⟨rfl, rfl⟩ | ⟨g, cap, cur, rfl, _, _, hnc, _⟩
      · simp [Builtin.append_, run_underlying hE.ht, sizeOf, typeInfo, hi, Builtin.lenOf, Builtin.firstCells]
      · simp [Builtin.append_, run_underlying hE.ht, sizeOf, typeInfo, hi, Builtin.lenOf, Builtin.firstCells, hnc, storeCells]
    · rcases hown.2 with ⟨rfl, rfl⟩ | ⟨g, cap, cur, rfl, _, _, hnc, _⟩
      · simp [Builtin.append_, run_underlying hE.ht, sizeOf, typeInfo, hi, Builtin.lenOf, Builtin.firstCells, loadCells, loadCellsFrom]
      · simp [Builtin.append_, run_underlying hE.ht, sizeOf, typeInfo, hi, Builtin.lenOf, Builtin.firstCells, loadCells, loadCellsFrom, hnc, storeCells]
  · obtain ⟨b, o, rfl, _, hc⟩ := hr.2 h0
    have hcell : ∀ j u, news[j]? = some u → w.cell? ((⟨b, o, none⟩ : Addr).add j) = some u := by
      intro j u hu
      have : (⟨b, o, none⟩ : Addr).add j = ⟨b, o + j, none⟩ := by unfold Addr.add; split <;> simp_all
      rw [this]; exact hc j u hu
    obtain ⟨v', w', h2, h3, h4, _, h5⟩ := run_append_own_at (P := P) w base T ty E i z size bytes hE.ht hi hz hs1 hs2 hs3 hE.pos v n xs hown ⟨b, o, none⟩ m c news hr.1 hcell h1
      (by unfold maxLen; omega) (by have := Nat.mul_le_mul h63 hbytes; omega) hbase
    refine ⟨v', w', h2, h3, h4, fun q hq => ?_⟩
    rcases h5 with e | e
    · rw [e] at hq; exact .inl hq
    · rw [e] at hq; simp at hq; exact .inr (by omega)

theorem wp_app_row_at {P : Program} {w : World} {o : Oper} {a : Act} {K : Act → World → Prop} {Q : Exit → Act → World → Prop} (s x : Operand) {T : TypeId}
    (ho : o.op = .call { callee := .builtin .append, args := #[s, x], argTypes := #[T, T] })
    {E : TypeId} {size bytes : Nat} (hE : EI P T E size bytes) {base n : Nat} {v : Value} {xs : List Value} (hs : a.eval s = v) (hown : w.ownsRow base E size v n xs)
    {B m c : Nat} {A : Option Addr} {news : List Value} (hx : a.eval x = .slice A m c) (hr : Row w B size A m news) (h1 : ∀ u ∈ news, u.oneCell' = true) (h63 : n + m ≤ 1000000000000) (hbytes : bytes ≤ 100) (hbase : base ≤ w.heap.size)
    (h : ∀ v' w', w'.ownsRow base E size v' (n + m) (xs ++ news) → Hid (w.grownBy w' v.ownBlock) → Below base w w' → Hid (At w.heap.size v v') → K (a.put o.dst v') w') : o.wp P a w K Q := by
  obtain ⟨v', w', hrun, h2, h3, h4⟩ := run_app_row_at (ty := o.type) (c := c) hE hown hr h1 h63 hbytes hbase
  unfold Oper.wp execOp
  simp only [ho, resolve, invoke, builtin, Sem.run_bind, Sem.run_pure, Result.andThen_ok, List.map_toArray, List.map_cons, List.map_nil, hs, hx, hrun]
  exact h v' w' h2 h3 (below_grown (Below.refl _ _) hown (Below.refl _ _) h3 hbase) h4
theorem wpList_app_row_at {P : Program} {w : World} {ops : Array Oper} {rest : List Oper} {o : Oper} {a : Act} {Q : Exit → Act → World → Prop} (hgd : o.guard = none) (s x : Operand) {T : TypeId}
    (ho : o.op = .call { callee := .builtin .append, args := #[s, x], argTypes := #[T, T] })
    {E : TypeId} {size bytes : Nat} (hE : EI P T E size bytes) {base n : Nat} {v : Value} {xs : List Value} (hs : a.eval s = v) (hown : w.ownsRow base E size v n xs)
    {B m c : Nat} {A : Option Addr} {news : List Value} (hx : a.eval x = .slice A m c) (hr : Row w B size A m news) (h1 : ∀ u ∈ news, u.oneCell' = true) (h63 : n + m ≤ 1000000000000) (hbytes : bytes ≤ 100) (hbase : base ≤ w.heap.size)
    (h : ∀ v' w', w'.ownsRow base E size v' (n + m) (xs ++ news) → Hid (w.grownBy w' v.ownBlock) → Below base w w' → Hid (At w.heap.size v v') → wpList P ops Q rest (a.put o.dst v') w') :
    wpList P ops Q (o :: rest) a w := by
  refine wpList_plain hgd fun K hK => ?_
  exact wp_app_row_at s x ho hE hs hown hx hr h1 h63 hbytes hbase (fun v' w' h2 h3 h4 h5 => hK _ _ (h v' w' h2 h3 h4 h5))
end Go.Proofs.Ytjkmhcolnidflaa
