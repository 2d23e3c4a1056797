/- Plain words for memory, of my own: a slice value whose cells read as a list ('Row'), bytes and texts as lists of bytes. No law is claimed here. Two rows of the call's own, appended to in turn: they lie apart. A struct in a new block: what a load and a store of it want to know, behind what has left it alone. Memory of a call's own, part by part: blocks of a struct and rows, each in a block of its own, by keys. No function of the program is spoken of here. Package runes: the kinds of runes, by the program and by the document's own answer: one contract each, for every number of 32 bits. Plain mathematics of columns: the blanks and tabs at a text's beginning, a text without its first columns, its width. No program is spoken of here. Plain mathematics of columns: a text with its tabs as blanks, a text stripped of some columns, and of some more. No program is spoken of here. Plain mathematics of fences: runs of a sign, the longest one, a text without the blanks and tabs around it, the line that begins a fence, the line that ends one. No program is spoken of here. Code within text, as lists, by no program: a span's end, what is between, cleaned. Bytes of a text, parts of a text, tests of bytes: what the machine's own operations give. No function of the program is spoken of here. append of elements that lie in some block, to a row that the call owns. No function of the program is spoken of here. make([]T, n, n): what it gives, whatever n (up to a million), as an equation for a walk. The document's own count of signs in a row. The document's own code within text: one contract for each function. Plain mathematics of single lines: headings, breaks, quotes, items. No program is spoken of here. Plain mathematics of blocks: a document's lines one by one, the nodes that come of them in their order, each with its parent's number. No program is spoken of here. -/
import Derived.Test.YtkfhkfagmokjpaaGreatDoorRows
import Derived.WalkKit
import Derived.WalkSpells
import Derived.WalkLawsBesides
import Derived.Deep.Draws
import Derived.Lib.Hide
import Derived.Lib.AppendStr
import Derived.Handy
import Derived.Maps.AppendAt
import Derived.Laws.ResultCell
import Derived.Laws.OwnMore
namespace Go.Proofs.YtkfhkfagmokjpaaGreatDoor
open Go.RowKit

/-- a byte as a value -/
def bv (b : UInt8) : Value := .int .u8 (b.toNat : Int)
/-- bytes as cells -/
def bcells (l : List UInt8) : List Value := l.map bv
/-- a text: its bytes -/
def bs (l : List UInt8) : ByteArray := ⟨l.toArray⟩
theorem bs_size (l : List UInt8) : (bs l).size = l.length := by simp [bs, ByteArray.size]

theorem bs_toList (l : List UInt8) : (bs l).toList = l := ByteArray.toList_mk l
theorem bs_eq {a b : List UInt8} (h : a = b) : ((bs a).toList == (bs b).toList) = true := by subst h; simp
theorem bs_append (a b : List UInt8) : bs a ++ bs b = bs (a ++ b) := by
  apply ByteArray.ext; simp [bs]
/-- the slice value (A, n, ..) holds the cells xs, all of them in blocks below B -/
def Row (w : World) (B size : Nat) (A : Option Addr) (n : Nat) (xs : List Value) : Prop :=
  xs.length = n * size ∧ (0 < n → ∃ b o, A = some ⟨b, o, none⟩ ∧ b < B ∧ ∀ j u, xs[j]? = some u → w.cell? ⟨b, o + j, none⟩ = some u)

section
variable {w w' : World} {B B' size n : Nat} {A : Option Addr} {xs : List Value}
theorem Row.keep (h : Row w B size A n xs) (hk : ∀ p : Addr, p.block < B → w'.cell? p = w.cell? p) : Row w' B size A n xs :=
  ⟨h.1, fun hn => by
    obtain ⟨b, o, e, hb, hc⟩ := h.2 hn
    exact ⟨b, o, e, hb, fun j u hu => (hk _ hb).trans (hc j u hu)⟩⟩
theorem Row.more (h : Row w B size A n xs) (hB : B ≤ B') : Row w B' size A n xs :=
  ⟨h.1, fun hn => by
    obtain ⟨b, o, e, hb, hc⟩ := h.2 hn
    exact ⟨b, o, e, by omega, hc⟩⟩
theorem Row.below (h : Row w B size A n xs) (hb : Below B w w') : Row w' B size A n xs := h.keep fun _ hp => hb.cell hp
theorem Row.own {base : Nat} {e : TypeId} {c : Nat} (h : w.ownsRow base e size (.slice A n c) n xs) : Row w w.heap.size size A n xs := by
  refine ⟨h.1, fun hn => ?_⟩
  rcases h.2 with ⟨_, h0⟩ | ⟨g, cap, cur, hv, _, hg, _, _, _, htake⟩
  · omega
  · have hA : A = some ⟨g, 0, none⟩ := by injection hv
    refine ⟨g, 0, hA, (Array.getElem?_eq_some_iff.1 hg).1, fun j u hu => ?_⟩
    have hc := h.cells (g := g) (by rw [hA]; rfl) j u hu
    have : (⟨g, 0, none⟩ : Addr).add j = ⟨g, 0 + j, none⟩ := by unfold Addr.add; split <;> simp_all
    rwa [this] at hc
/-- one cell of a row of one-cell elements -/
theorem Row.at1 (h : Row w B 1 A n xs) {k : Nat} (hk : k < n) : ∃ b o, A = some ⟨b, o, none⟩ ∧ b < B ∧ ∀ j, (hj : j < n) → w.cell? ⟨b, o + j, none⟩ = some (xs[j]'(by have := h.1; omega)) := by
  obtain ⟨b, o, e, hb, hc⟩ := h.2 (by omega)
  refine ⟨b, o, e, hb, fun j hj => hc j _ ?_⟩
  exact List.getElem?_eq_getElem _
end

/-- what an owned value looks like -/
theorem own_shape {w : World} {base : Nat} {e : TypeId} {size n : Nat} {v : Value} {xs : List Value} (h : w.ownsRow base e size v n xs) : ∃ A c, v = .slice A n c ∧ n ≤ c := by
  rcases h.2 with ⟨rfl, rfl⟩ | ⟨g, cap, cur, rfl, _, _, hn, _⟩
  · exact ⟨none, 0, rfl, by omega⟩
  · exact ⟨_, cap, rfl, hn⟩


/-- an element type's row of the table: slices of type T have elements of type E, of so many cells and bytes -/
structure EI (P : Program) (T E : TypeId) (size bytes : Nat) : Prop where
  ht : P.underlying T = some (.slice E)
  info : ∃ i z, P.info? E = some i ∧ i.zero = some z ∧ i.size = size ∧ i.bytes = bytes ∧ z.cells.size = size
  pos : 0 < size

theorem EI.mk' {P : Program} {T E : TypeId} {z : Value} {size bytes : Nat} (ht : P.underlying T = some (.slice E))
    (h : (P.info? E).map (fun i => (i.zero, i.size, i.bytes)) = some (some z, size, bytes)) (hz : z.cells.size = size) (hp : 0 < size) : EI P T E size bytes := by
  obtain ⟨i, h1, h2, h3, h4⟩ := info_parts h
  exact ⟨ht, ⟨i, z, h1, h2, h3, h4, hz⟩, hp⟩

theorem own_below {w w1 : World} {base : Nat} {e : TypeId} {size n : Nat} {v : Value} {xs : List Value} (h : w.ownsRow base e size v n xs) (hb : Below w.heap.size w w1) : w1.ownsRow base e size v n xs := by
  refine ⟨h.1, ?_⟩
  rcases h.2 with hn | ⟨g, cap, cur, rfl, hbg, hgg, rest⟩
  · exact .inl hn
  · exact .inr ⟨g, cap, cur, rfl, hbg, (hb.block g (Array.getElem?_eq_some_iff.1 hgg).1).trans hgg, rest⟩

theorem below_grown {w w1 w2 : World} {base : Nat} {e : TypeId} {size n : Nat} {v : Value} {xs : List Value} {a : World} (h : Below base a w) (hown : w1.ownsRow base e size v n xs)
    (h1 : Below base w w1) (hg : w1.grownBy w2 v.ownBlock) (hbase : base ≤ w1.heap.size) : Below base a w2 :=
  (h.trans h1).grown hg hbase fun k hk => (hown.lt k hk).1

theorem cells_new (w0 : World) (cs : Array Value) (E : TypeId) {g : Nat} (hg : g = w0.heap.size) : ∀ j u, cs.toList[j]? = some u → (w0.alloc (.cells cs E)).cell? ((⟨g, 0, none⟩ : Addr).add j) = some u := by
  intro j u hu
  have : (⟨g, 0, none⟩ : Addr).add j = ⟨g, j, none⟩ := by unfold Addr.add; split <;> simp_all
  rw [this, World.cell?_alloc_at _ _ _ _ hg]
  simpa using hu

theorem grown_new {w0 w' : World} {o : Obj} {row : Option Nat} (h : (w0.alloc o).grownBy w' row) : w0.grownBy w' row :=
  ⟨h.os, h.tape, h.output, by have := h.size; simp at this; omega, fun i hi hne => (h.block i (by simp; omega) hne).trans (Below.heap_alloc w0 o i hi)⟩
theorem own_ne_lt {w : World} {base : Nat} {e : TypeId} {size n : Nat} {v : Value} {xs : List Value} (h : w.ownsRow base e size v n xs) {k : Nat} (hk : k < base) : v.ownBlock ≠ some k := fun he => by
  have := (h.lt k he).1; omega

/-- append of elements that were laid in a new block -/
theorem wpList_app_new {P : Program} {w0 : World} {ops : Array Oper} {rest : List Oper} {o : Oper} {a : Act} {Q : Exit → Act → World → Prop} (hgd : o.guard = none) (s x : Operand) {T : TypeId}
    (ho : o.op = .call { callee := .builtin .append, args := #[s, x], argTypes := #[T, T] })
    {E : TypeId} {size bytes : Nat} (hE : EI P T E size bytes) {base n : Nat} {v : Value} {xs : List Value} (hs : a.eval s = v) (hown : w0.ownsRow base E size v n xs)
    {g k c : Nat} {cs : Array Value} (hx : a.eval x = .slice (some ⟨g, 0, none⟩) k c) (hg : g = w0.heap.size) (hcs : cs.size = k * size) (h1 : ∀ u ∈ cs.toList, u.oneCell' = true)
    (h63 : n + k ≤ 1000000000000) (hbytes : bytes ≤ 100) (hbase : base ≤ w0.heap.size)
    (h : ∀ v' w', w'.ownsRow base E size v' (n + k) (xs ++ cs.toList) → Hid (w0.grownBy w' v.ownBlock) → Below base w0 w' → wpList P ops Q rest (a.put o.dst v') w') :
    wpList P ops Q (o :: rest) a (w0.alloc (.cells cs E)) := by
  obtain ⟨i, z, hi, hz, hs1, hs2, hs3⟩ := hE.info
  refine wpList_append_own _ hgd s x T ho base E i z size bytes hE.ht hi hz hs1 hs2 hs3 hE.pos v n xs hs (hown.alloc _) ⟨g, 0, none⟩ k c cs.toList hx (by simpa using hcs) (cells_new w0 cs E hg) h1
    (by unfold maxLen; omega) (by have := Nat.mul_le_mul h63 hbytes; omega) (by simp; omega) ?_
  intro v' w' hw hgr _
  exact h v' w' hw (grown_new hgr) (below_grown (Below.refl _ _) (hown.alloc _) ((Below.refl _ _).alloc hbase _) hgr (by simp; omega))

/-- the address of what is cut off a slice: one name for it, which the walk does not open -/
def cutA (size : Nat) (A : Option Addr) (c lo : Nat) : Option Addr := if c = lo then A else A.map (·.add (lo * size))

theorem run_cut {P : Program} {T : TypeId} (hT : P.underlying T = some (.slice (P.elem T))) (size : Nat) (hsz : ∀ w, (sizeOf (P.elem T)).run P w = .ok size w) (A : Option Addr) (n c lo hi : Nat) (h1 : lo ≤ hi) (h2 : hi ≤ c) (w : World) :
    (Instr.slice T (.slice A n c) (some (.int .i64 (lo : Int))) (some (.int .i64 (hi : Int))) none).run P w = .ok (.slice (cutA size A c lo) (hi - lo) (c - lo)) w := by
  rw [run_slice_lh w T A n c hT .i64 .i64 lo hi (by omega) (by omega) (by omega), hsz]
  simp [sliced, cutA, Result.andThen]

theorem Row.cut {w : World} {B size n : Nat} {A : Option Addr} {xs : List Value} (h : Row w B size A n xs) {c lo hi : Nat} (h1 : lo ≤ hi) (h2 : hi ≤ n) (h3 : n ≤ c) :
    Row w B size (cutA size A c lo) (hi - lo) ((xs.drop (lo * size)).take ((hi - lo) * size)) := by
  refine ⟨?_, fun hn => ?_⟩
  · have hl := h.1
    have h4 := Nat.mul_le_mul_right size h2
    rw [List.length_take, List.length_drop, hl, Nat.sub_mul]
    omega
  · obtain ⟨b, o, rfl, hb, hc⟩ := h.2 (by omega)
    refine ⟨b, o + lo * size, ?_, hb, fun j u hu => ?_⟩
    · unfold cutA
      rw [if_neg (by omega)]
      simp only [Option.map_some, Addr.add]
      split
      · rename_i h0; rw [h0]; rfl
      · rfl
    · have := hc (lo * size + j) u (by
        rw [List.getElem?_take] at hu
        split at hu
        · rwa [List.getElem?_drop] at hu
        · cases hu)
      rwa [← Nat.add_assoc] at this

/-- what lies from lo up to hi -/
def mid {α : Type} (l : List α) (lo hi : Nat) : List α := (l.drop lo).take (hi - lo)
theorem mid_len {α : Type} {l : List α} {lo hi : Nat} (h : hi ≤ l.length) : (mid l lo hi).length = hi - lo := by
  unfold mid; rw [List.length_take, List.length_drop]; omega
/-- bytes made a text -/
theorem run_text {P : Program} {w : World} {B n c : Nat} {A : Option Addr} {l : List UInt8} (h : Row w B 1 A n (bcells l)) (src e dst : TypeId) (hs : P.underlying src = some (.slice e)) (he : P.underlying e = some (.int .u8)) (hd : P.underlying dst = some .string) :
    (convert src dst (.slice A n c)).run P w = .ok (.string (bs l)) w := by
  have hn : l.length = n := by have := h.1; simpa [bcells] using this
  rcases A with _ | ad
  · have h0 : n = 0 := by
      rcases Nat.eq_zero_or_pos n with h0 | h0
      · exact h0
      · obtain ⟨b, o, e, _⟩ := h.2 h0; cases e
    subst h0
    have : l = [] := List.eq_nil_of_length_eq_zero hn
    subst this
    rw [run_convert_bytes_nil w src e hs he 0 c dst hd]
    rfl
  · have hstr : (strOfNums (l.map fun b => (b.toNat : Int))) = ⟨l.toArray⟩ := by
      have hid : ((fun n : Int => UInt8.ofNat n.toNat) ∘ fun b : UInt8 => (b.toNat : Int)) = id := by funext b; simp
      simp only [strOfNums, List.map_map, hid, List.map_id_fun, id]
    rcases Nat.eq_zero_or_pos n with h0 | h0
    · subst h0
      have : l = [] := List.eq_nil_of_length_eq_zero hn
      subst this
      obtain ⟨b, o, sp⟩ := ad
      rw [run_convert_bytes_string w src dst e _ 0 c hs he hd, run_bytesToString w _ 0 c [] (by simp [loadCells, loadCellsFrom])]
      rfl
    · obtain ⟨b, o, e, _, hc⟩ := h.2 h0
      cases e
      rw [run_convert_bytes_arg w src _ hs he b o n c (l.map fun b => (b.toNat : Int)) (by simpa using hn) (fun i hi => by
        have hil : i < l.length := by omega
        have := hc i _ (List.getElem?_eq_getElem (by simpa [bcells] using hil))
        rw [this]; simp [bcells, bv, List.getElem?_eq_getElem hil]) dst hd, hstr]
      rfl

theorem strCells_bs (l : List UInt8) : Lib.strCells (bs l) = bcells l := by simp [Lib.strCells, bcells, bv, bs]

/-- append of a text's bytes -/
theorem wpList_app_text {P : Program} {w : World} {ops : Array Oper} {rest : List Oper} {o : Oper} {a : Act} {Q : Exit → Act → World → Prop} (hgd : o.guard = none) (s x : Operand) {T U : TypeId}
    (ho : o.op = .call { callee := .builtin .append, args := #[s, x], argTypes := #[T, U] })
    {E : TypeId} (hE : EI P T E 1 1) (hEz : (P.info? E).map (fun i => i.zero) = some (some (.int .u8 0))) (hU : P.underlying U = some .string) {base n : Nat} {v : Value} {l : List UInt8} (hs : a.eval s = v) (hown : w.ownsRow base E 1 v n (bcells l))
    {t : List UInt8} (hx : a.eval x = .string (bs t)) (h63 : n + t.length ≤ 1000000000000) (hbase : base ≤ w.heap.size)
    (h : ∀ v' w', w'.ownsRow base E 1 v' (n + t.length) (bcells (l ++ t)) → Hid (w.grownBy w' v.ownBlock) → Below base w w' → wpList P ops Q rest (a.put o.dst v') w') :
    wpList P ops Q (o :: rest) a w := by
  obtain ⟨i, z, hi, hz, hs1, hs2, hs3⟩ := hE.info
  have hzz : i.zero = some (.int .u8 0) := by rw [hi] at hEz; simpa using hEz
  have hsz := bs_size t
  refine Lib.wpList_append_own_string w hgd s x T U ho base E i hE.ht hU hi hzz hs1 hs2 v n (bcells l) hs hown (bs t) hx (by rw [hsz]; unfold maxLen; omega) (by rw [hsz]; omega) hbase ?_
  intro v' w' hw hgr _
  rw [hsz, strCells_bs] at hw
  exact h v' w' (by simpa [bcells] using hw) hgr (below_grown (Below.refl _ _) hown (Below.refl _ _) hgr hbase)

theorem own_base {w : World} {b0 b1 : Nat} {e : TypeId} {size n : Nat} {v : Value} {xs : List Value} (h : w.ownsRow b1 e size v n xs) (hb : b0 ≤ b1) : w.ownsRow b0 e size v n xs := by
  refine ⟨h.1, ?_⟩
  rcases h.2 with hn | ⟨g, cap, cur, rfl, hbg, rest⟩
  · exact .inl hn
  · exact .inr ⟨g, cap, cur, rfl, Nat.le_trans hb hbg, rest⟩

theorem below_drewN {B : Nat} {a w : World} (h : Below B a w) (n : Nat) : Below B a (w.drewN n) := ⟨h.os, h.tape, h.output, h.size, h.block⟩

theorem ext_trans {w w1 w2 : World} (h : Below w.heap.size w w1) (k : Below w1.heap.size w1 w2) : Below w.heap.size w w2 := h.trans (k.mono h.size)
theorem Row.ext {w w' : World} {size n : Nat} {A : Option Addr} {xs : List Value} (h : Row w w.heap.size size A n xs) (hb : Below w.heap.size w w') : Row w' w'.heap.size size A n xs := (h.below hb).more hb.size

/-- a literal row of one-cell elements in a new block, marked or not -/
theorem Row.fresh (w : World) (E : TypeId) (C : Array Value) (m : Nat × Nat) {n : Nat} {xs : List Value} (hn : C.size = n) (hx : C.toList = xs) :
    Row (w.alloc (.cells C E m)) (w.alloc (.cells C E m)).heap.size 1 (some ⟨w.heap.size, 0, none⟩) n xs := by
  subst hn hx
  refine ⟨by simp, fun _ => ⟨w.heap.size, 0, rfl, by simp, fun j u hu => ?_⟩⟩
  rw [World.cell?_alloc_mark]
  simpa using hu
theorem ext_alloc (w : World) (o : Obj) : Below w.heap.size w (w.alloc o) := (Below.refl _ _).alloc (Nat.le_refl _) _

theorem ext_drew (w : World) : Below w.heap.size w w.drew := (Below.refl _ _).drew

theorem run_app_row {P : Program} {w : World} {T ty : TypeId} {E : TypeId} {size bytes : Nat} (hE : EI P T E size bytes) {base n : Nat} {v : Value} {xs : List Value} (hown : w.ownsRow base E size v n xs)
    {B m c : Nat} {A : Option Addr} {news : List Value} (hr : Row w B size A m news) (h1 : ∀ u ∈ news, u.oneCell' = true) (h63 : n + m ≤ 1000000000000) (hbytes : bytes ≤ 100) (hbase : base ≤ w.heap.size) :
    ∃ v' w', (Builtin.append_ #[T, T] ty #[v, .slice A m c]).run P w = .ok v' w' ∧ w'.ownsRow base E size v' (n + m) (xs ++ news) ∧ w.grownBy w' v.ownBlock := by
  obtain ⟨i, z, hi, hz, hs1, hs2, hs3⟩ := hE.info
  rcases Nat.eq_zero_or_pos m with h0 | h0
  · subst h0
    have hn : news = [] := List.eq_nil_of_length_eq_zero (by simpa using hr.1)
    subst hn
    refine ⟨v, w, ?_, by simpa using hown, World.grownBy.refl w _⟩
    rcases A with _ | ad
    · rcases hown.2 with ⟨rfl, rfl⟩ | ⟨g, cap, cur, rfl, _, _, hnc, _⟩
      · simp [Builtin.append_, run_underlying hE.ht, sizeOf, typeInfo, hi, Builtin.lenOf, Builtin.firstCells]
      · simp [Builtin.append_, run_underlying hE.ht, sizeOf, typeInfo, hi, Builtin.lenOf, Builtin.firstCells, hnc, storeCells]
    · rcases hown.2 with ⟨rfl, rfl⟩ | ⟨g, cap, cur, rfl, _, _, hnc, _⟩
      · simp [Builtin.append_, run_underlying hE.ht, sizeOf, typeInfo, hi, Builtin.lenOf, Builtin.firstCells, loadCells, loadCellsFrom]
      · simp [Builtin.append_, run_underlying hE.ht, sizeOf, typeInfo, hi, Builtin.lenOf, Builtin.firstCells, loadCells, loadCellsFrom, hnc, storeCells]
  · obtain ⟨b, o, rfl, _, hc⟩ := hr.2 h0
    have hcell : ∀ j u, news[j]? = some u → w.cell? ((⟨b, o, none⟩ : Addr).add j) = some u := by
      intro j u hu
      have : (⟨b, o, none⟩ : Addr).add j = ⟨b, o + j, none⟩ := by unfold Addr.add; split <;> simp_all
      rw [this]; exact hc j u hu
    obtain ⟨v', w', h2, h3, h4, _⟩ := run_append_own (P := P) w base T ty E i z size bytes hE.ht hi hz hs1 hs2 hs3 hE.pos v n xs hown ⟨b, o, none⟩ m c news hr.1 hcell h1
      (by unfold maxLen; omega) (by have := Nat.mul_le_mul h63 hbytes; omega) hbase
    exact ⟨v', w', h2, h3, h4⟩

/-- append of a row, nil or not, at an operation -/
theorem wp_app_row {P : Program} {w : World} {o : Oper} {a : Act} {K : Act → World → Prop} {Q : Exit → Act → World → Prop} (s x : Operand) {T : TypeId}
    (ho : o.op = .call { callee := .builtin .append, args := #[s, x], argTypes := #[T, T] })
    {E : TypeId} {size bytes : Nat} (hE : EI P T E size bytes) {base n : Nat} {v : Value} {xs : List Value} (hs : a.eval s = v) (hown : w.ownsRow base E size v n xs)
    {B m c : Nat} {A : Option Addr} {news : List Value} (hx : a.eval x = .slice A m c) (hr : Row w B size A m news) (h1 : ∀ u ∈ news, u.oneCell' = true) (h63 : n + m ≤ 1000000000000) (hbytes : bytes ≤ 100) (hbase : base ≤ w.heap.size)
    (h : ∀ v' w', w'.ownsRow base E size v' (n + m) (xs ++ news) → Hid (w.grownBy w' v.ownBlock) → Below base w w' → K (a.put o.dst v') w') : o.wp P a w K Q := by
  obtain ⟨v', w', hrun, h2, h3⟩ := run_app_row (ty := o.type) (c := c) hE hown hr h1 h63 hbytes hbase
  unfold Oper.wp execOp
  simp only [ho, resolve, invoke, builtin, Sem.run_bind, Sem.run_pure, Result.andThen_ok, List.map_toArray, List.map_cons, List.map_nil, hs, hx, hrun]
  exact h v' w' h2 h3 (below_grown (Below.refl _ _) hown (Below.refl _ _) h3 hbase)

theorem own_max {w : World} {base : Nat} {e : TypeId} {size n : Nat} {v : Value} {xs : List Value} (h : w.ownsRow base e size v n xs) : n ≤ 9223372036854775807 := by
  rcases h.2 with ⟨_, h0⟩ | ⟨g, cap, cur, _, _, _, hn, hm, _⟩
  · omega
  · unfold maxLen at hm; omega
end Go.Proofs.YtkfhkfagmokjpaaGreatDoor

namespace Go.Proofs.YtkfhkfagmokjpaaGreatDoor
open Go.RowKit

/-- no block of the one is the other's -/
def Apart (a b : Value) : Prop := ∀ g, a.ownBlock = some g → b.ownBlock ≠ some g
theorem Apart.symm {a b : Value} (h : Apart a b) : Apart b a := fun g hb ha => h g ha hb
theorem Apart.nil (b : Value) : Apart (.slice none 0 0) b := fun g h => by simp [Value.ownBlock] at h
/-- where an appended row lies: where it lay, or in a block from B on -/
def At (B : Nat) (v v' : Value) : Prop := ∀ g, v'.ownBlock = some g → v.ownBlock = some g ∨ B ≤ g
theorem Apart.step {w : World} {base B : Nat} {e : TypeId} {size n : Nat} {a a' b : Value} {xs : List Value} (h : Apart a b) (hb : w.ownsRow base e size b n xs) (hat : At B a a') (hB : w.heap.size ≤ B) : Apart a' b := by
  intro g hg hbg
  rcases hat g hg with h1 | h1
  · exact h g h1 hbg
  · have := (hb.lt g hbg).2; omega
theorem own_apart {w w' : World} {base : Nat} {e : TypeId} {size n : Nat} {a b : Value} {xs : List Value} (hb : w.ownsRow base e size b n xs) (hg : w.grownBy w' a.ownBlock) (h : Apart a b) : w'.ownsRow base e size b n xs := by
  refine hb.kept hg ?_
  cases hbo : b.ownBlock with
  | none => exact .inl rfl
  | some g => exact .inr fun he => h g he.symm hbo

/-- append of elements that were laid in a new block; and where the row lies then -/
theorem wpList_app_two {P : Program} {w0 : World} {ops : Array Oper} {rest : List Oper} {o : Oper} {a : Act} {Q : Exit → Act → World → Prop} (hgd : o.guard = none) (s x : Operand) {T : TypeId}
    (ho : o.op = .call { callee := .builtin .append, args := #[s, x], argTypes := #[T, T] })
    {E : TypeId} {size bytes : Nat} (hE : EI P T E size bytes) {base n : Nat} {v : Value} {xs : List Value} (hs : a.eval s = v) (hown : w0.ownsRow base E size v n xs)
    {g k c : Nat} {cs : Array Value} (hx : a.eval x = .slice (some ⟨g, 0, none⟩) k c) (hg : g = w0.heap.size) (hcs : cs.size = k * size) (h1 : ∀ u ∈ cs.toList, u.oneCell' = true)
    (h63 : n + k ≤ 1000000000000) (hbytes : bytes ≤ 100) (hbase : base ≤ w0.heap.size)
    (h : ∀ v' w', w'.ownsRow base E size v' (n + k) (xs ++ cs.toList) → Hid (w0.grownBy w' v.ownBlock) → Below base w0 w' → Hid (At w0.heap.size v v') → wpList P ops Q rest (a.put o.dst v') w') :
    wpList P ops Q (o :: rest) a (w0.alloc (.cells cs E)) := by
  obtain ⟨i, z, hi, hz, hs1, hs2, hs3⟩ := hE.info
  refine wpList_append_own_at _ hgd s x T ho base E i z size bytes hE.ht hi hz hs1 hs2 hs3 hE.pos v n xs hs (hown.alloc _) ⟨g, 0, none⟩ k c cs.toList hx (by simpa using hcs) (cells_new w0 cs E hg) h1
    (by unfold maxLen; omega) (by have := Nat.mul_le_mul h63 hbytes; omega) (by simp; omega) ?_
  intro v' w' hw hgr _ hat
  refine h v' w' hw (grown_new hgr) (below_grown (Below.refl _ _) (hown.alloc _) ((Below.refl _ _).alloc hbase _) hgr (by simp; omega)) ?_
  intro q hq
  rcases hat with e | e
  · rw [e] at hq; exact .inl hq
  · rw [e] at hq; simp at hq; exact .inr (by omega)
end Go.Proofs.YtkfhkfagmokjpaaGreatDoor

namespace Go.Proofs.YtkfhkfagmokjpaaGreatDoor
open Go.RowKit

/-- a new block, behind what has left it alone -/
theorem blk {w w1 : World} {o : Obj} (hb : Below (w.alloc o).heap.size (w.alloc o) w1) : w1.heap[w.heap.size]? = some o :=
  (hb.block _ (by simp)).trans (heap_alloc_new w o)
theorem blk_cell {w1 : World} {g : Nat} {cs : Array Value} {t : TypeId} {fr : Nat × Nat} (h : w1.heap[g]? = some (.cells cs t fr)) (j : Nat) : w1.cell? ⟨g, j, none⟩ = cs[j]? := by
  simp [World.cell?, h]
theorem blk_free {w1 : World} {g : Nat} {cs : Array Value} {t : TypeId} (h : w1.heap[g]? = some (.cells cs t (0, 0))) (j : Nat) : w1.frozen? ⟨g, j, none⟩ = false := by
  simp [World.frozen?, h]
/-- what a store into a fresh fence wants to know -/
theorem blk_open {w w1 : World} {a b c d : Value} {t : TypeId} (hb : Below (w.alloc (.cells #[a, b, c, d] t)).heap.size (w.alloc (.cells #[a, b, c, d] t)) w1) :
    w1.cell? ⟨w.heap.size, 0, none⟩ = some a ∧ w1.cell? ⟨w.heap.size, 1, none⟩ = some b ∧ w1.cell? ⟨w.heap.size, 2, none⟩ = some c ∧ w1.cell? ⟨w.heap.size, 3, none⟩ = some d ∧
    ∀ j, w1.frozen? ⟨w.heap.size, j, none⟩ = false := by
  have h := blk hb
  exact ⟨blk_cell h 0, blk_cell h 1, blk_cell h 2, blk_cell h 3, blk_free h⟩

theorem blk_done {w w1 : World} {o : Obj} (hb : Below (w.alloc o).heap.size (w.alloc o) w1) (a b c d : Value) :
    Below w.heap.size w ((((w1.setCell ⟨w.heap.size, 0, none⟩ a).setCell ⟨w.heap.size, 1, none⟩ b).setCell ⟨w.heap.size, 2, none⟩ c).setCell ⟨w.heap.size, 3, none⟩ d) :=
  (((((ext_alloc w o).trans (hb.mono (by simp))).setCell (Nat.le_refl _) _).setCell (Nat.le_refl _) _).setCell (Nat.le_refl _) _).setCell (Nat.le_refl _) _

theorem keep {w w1 : World} {g : Nat} {o : Obj} (h : w.heap[g]? = some o) (hb : Below w.heap.size w w1) : w1.heap[g]? = some o ∧ g < w1.heap.size := by
  have hg : g < w.heap.size := (Array.getElem?_eq_some_iff.1 h).1
  have h1 := hb.block g hg
  have hs := hb.size
  exact ⟨h1.trans h, by omega⟩
theorem four {w1 : World} {g : Nat} {a b c d : Value} {t : TypeId} {fr : Nat × Nat} (h : w1.heap[g]? = some (.cells #[a, b, c, d] t fr)) :
    w1.cell? ⟨g, 0, none⟩ = some a ∧ w1.cell? ⟨g, 1, none⟩ = some b ∧ w1.cell? ⟨g, 2, none⟩ = some c ∧ w1.cell? ⟨g, 3, none⟩ = some d :=
  ⟨blk_cell h 0, blk_cell h 1, blk_cell h 2, blk_cell h 3⟩
/-- three results, the first a struct in a variable -/
theorem results_cell_tmp2 {fn : Func} {p u v : Tmp} {ty : TypeId} (h : fn.results = #[.cell p ty, .tmp u, .tmp v]) (tmps : Array Value) (P : Program) (w : World) :
    (results fn tmps).run P w =
      ((asAddr (tmps.getD p undef)).run P w).andThen fun a w₁ => ((loadVar ty a).run P w₁).andThen fun x w₂ => .ok (.tuple #[x, tmps.getD u undef, tmps.getD v undef]) w₂ := by
  simp only [results, h]
  simp [Sem.run_bind, Result.andThen]
theorem three {w1 : World} {g : Nat} {a b c : Value} {t : TypeId} {fr : Nat × Nat} (h : w1.heap[g]? = some (.cells #[a, b, c] t fr)) :
    w1.cell? ⟨g, 0, none⟩ = some a ∧ w1.cell? ⟨g, 1, none⟩ = some b ∧ w1.cell? ⟨g, 2, none⟩ = some c :=
  ⟨blk_cell h 0, blk_cell h 1, blk_cell h 2⟩
end Go.Proofs.YtkfhkfagmokjpaaGreatDoor

namespace Go.Proofs.YtkfhkfagmokjpaaGreatDoor
open Go.RowKit

/-- a struct's block, or a row -/
inductive Part
  | blk (g : Nat) (cs : Array Value) (t : TypeId)
  | row (e : TypeId) (size : Nat) (v : Value) (n : Nat) (xs : List Value)
def Part.holds (w : World) (B : Nat) : Part → Prop
  | .blk g cs t => B ≤ g ∧ w.heap[g]? = some (.cells cs t (0, 0))
  | .row e size v n xs => w.ownsRow B e size v n xs
def Part.block : Part → Option Nat
  | .blk g _ _ => some g
  | .row _ _ v _ _ => v.ownBlock
/-- all parts lie, each in a block of its own -/
structure Hp {K : Type} (w : World) (B : Nat) (m : K → Option Part) : Prop where
  holds : ∀ k a, m k = some a → a.holds w B
  apart : ∀ k k' a a' g, m k = some a → m k' = some a' → a.block = some g → a'.block = some g → k = k'

theorem Part.lt {w : World} {B : Nat} {a : Part} (h : a.holds w B) {g : Nat} (hg : a.block = some g) : B ≤ g ∧ g < w.heap.size := by
  cases a with
  | blk g' cs t =>
    simp only [Part.block, Option.some.injEq] at hg
    subst hg
    exact ⟨h.1, (Array.getElem?_eq_some_iff.1 h.2).1⟩
  | row e size v n xs => exact World.ownsRow.lt (show w.ownsRow B e size v n xs from h) g hg
theorem Part.kept {w w' : World} {B : Nat} {a : Part} (h : a.holds w B) {row : Option Nat} (hg : w.grownBy w' row) (hne : a.block = none ∨ a.block ≠ row) : a.holds w' B := by
  cases a with
  | blk g cs t =>
    refine ⟨h.1, ?_⟩
    rw [hg.block g (Array.getElem?_eq_some_iff.1 h.2).1 (by rcases hne with h | h; · cases h
                                                            · exact h)]
    exact h.2
  | row e size v n xs => exact World.ownsRow.kept (show w.ownsRow B e size v n xs from h) hg hne
theorem grown_ext {w w' : World} (hb : Below w.heap.size w w') (row : Option Nat) : w.grownBy w' row := ⟨hb.os, hb.tape, hb.output, hb.size, fun k hk _ => hb.block k hk⟩
theorem grown_set (w : World) (a : Addr) (v : Value) : w.grownBy (w.setCell a v) (some a.block) := by
  have hb : Below 0 w (w.setCell a v) := (Below.refl 0 w).setCell (Nat.zero_le _) v
  exact ⟨hb.os, hb.tape, hb.output, hb.size, fun k _ hne => Below.heap_setCell _ _ _ _ (fun e => hne (by rw [e]))⟩

section
variable {K : Type} {w w' : World} {B : Nat} {m : K → Option Part}
theorem Hp.ext (h : Hp w B m) (hb : Below w.heap.size w w') : Hp w' B m := by
  refine ⟨fun k a ha => ?_, h.apart⟩
  have := h.holds k a ha
  cases a with
  | blk g cs t => exact ⟨this.1, (hb.block g (Array.getElem?_eq_some_iff.1 this.2).1).trans this.2⟩
  | row e size v n xs => exact own_below (show w.ownsRow B e size v n xs from this) hb
/-- one part is another one: it lies where it lay, or in a new block -/
theorem Hp.put (h : Hp w B m) {m' : K → Option Part} {k : K} {a a' : Part} (hk : m k = some a) (hg : w.grownBy w' a.block) (ha : a'.holds w' B)
    (hat : ∀ g, a'.block = some g → a.block = some g ∨ w.heap.size ≤ g) (hm : ∀ j, j ≠ k → m' j = m j) (hk' : m' k = some a') : Hp w' B m' := by
  refine ⟨fun j b hb => ?_, fun i j b c g hi hj hbi hbj => ?_⟩
  · by_cases hjk : j = k
    · subst hjk; rw [hk'] at hb; cases hb; exact ha
    · rw [hm j hjk] at hb
      refine Part.kept (h.holds j b hb) hg ?_
      cases hbo : b.block with
      | none => exact .inl rfl
      | some g => exact .inr fun he => hjk (h.apart j k b a g hb hk hbo he.symm)
  · by_cases hik : i = k
    · by_cases hjk : j = k
      · rw [hik, hjk]
      · subst hik
        rw [hk'] at hi; cases hi
        rw [hm j hjk] at hj
        rcases hat g hbi with h1 | h1
        · exact h.apart i j a c g hk hj h1 hbj
        · exact absurd (Part.lt (h.holds j c hj) hbj).2 (by omega)
    · by_cases hjk : j = k
      · subst hjk
        rw [hk'] at hj; cases hj
        rw [hm i hik] at hi
        rcases hat g hbj with h1 | h1
        · exact h.apart i j b a g hi hk hbi h1
        · exact absurd (Part.lt (h.holds i b hi) hbi).2 (by omega)
      · rw [hm i hik] at hi; rw [hm j hjk] at hj
        exact h.apart i j b c g hi hj hbi hbj
/-- one part more, in a new block -/
theorem Hp.more (h : Hp w B m) {m' : K → Option Part} {k : K} {a' : Part} (hk : m k = none) (hb : Below w.heap.size w w') (ha : a'.holds w' B)
    (hat : ∀ g, a'.block = some g → w.heap.size ≤ g) (hm : ∀ j, j ≠ k → m' j = m j) (hk' : m' k = some a') : Hp w' B m' := by
  have h' := h.ext hb
  refine ⟨fun j b hb => ?_, fun i j b c g hi hj hbi hbj => ?_⟩
  · by_cases hjk : j = k
    · subst hjk; rw [hk'] at hb; cases hb; exact ha
    · rw [hm j hjk] at hb; exact h'.holds j b hb
  · by_cases hik : i = k
    · by_cases hjk : j = k
      · rw [hik, hjk]
      · subst hik
        rw [hk'] at hi; cases hi
        rw [hm j hjk] at hj
        exact absurd (Part.lt (h.holds j c hj) hbj).2 (by have := hat g hbi; omega)
    · by_cases hjk : j = k
      · subst hjk
        rw [hk'] at hj; cases hj
        rw [hm i hik] at hi
        exact absurd (Part.lt (h.holds i b hi) hbi).2 (by have := hat g hbj; omega)
      · rw [hm i hik] at hi; rw [hm j hjk] at hj
        exact h.apart i j b c g hi hj hbi hbj
/-- a store into a struct -/
theorem Hp.store (h : Hp w B m) {m' : K → Option Part} {k : K} {g j : Nat} {cs : Array Value} {t : TypeId} {v : Value} (hk : m k = some (.blk g cs t))
    (hm : ∀ j, j ≠ k → m' j = m j) (hk' : m' k = some (.blk g (cs.setIfInBounds j v) t)) : Hp (w.setCell ⟨g, j, none⟩ v) B m' := by
  have hh : Part.holds w B (.blk g cs t) := h.holds k _ hk
  exact h.put (a' := .blk g (cs.setIfInBounds j v) t) hk (grown_set w ⟨g, j, none⟩ v) ⟨hh.1, heap_setCell_same w g j cs t v hh.2⟩ (fun _ h => .inl h) hm hk'
theorem Hp.base (h : Hp w B m) {k : K} {g : Nat} {cs : Array Value} {t : TypeId} (hk : m k = some (.blk g cs t)) : B ≤ g ∧ g < w.heap.size ∧ w.heap[g]? = some (.cells cs t (0, 0)) := by
  have hh : Part.holds w B (.blk g cs t) := h.holds k _ hk
  exact ⟨hh.1, (Array.getElem?_eq_some_iff.1 hh.2).1, hh.2⟩
theorem Hp.own (h : Hp w B m) {k : K} {e : TypeId} {size n : Nat} {v : Value} {xs : List Value} (hk : m k = some (.row e size v n xs)) : w.ownsRow B e size v n xs := h.holds k _ hk
end

section
variable {K : Type} [DecidableEq K] {w w' : World} {B : Nat} {m : K → Option Part}
end
theorem cell_of {w : World} {g j : Nat} {cs : List Value} {t : TypeId} {fr : Nat × Nat} {v : Value} (h : w.heap[g]? = some (.cells ⟨cs⟩ t fr)) (hj : cs[j]? = some v) : w.cell? ⟨g, j, none⟩ = some v := by
  rw [blk_cell h j]; simpa using hj
/-- a row in a new block -/
theorem Row.freshN (w : World) (E : TypeId) (C : Array Value) {size n : Nat} {xs : List Value} (hn : C.size = n * size) (hx : C.toList = xs) :
    Row (w.alloc (.cells C E)) (w.alloc (.cells C E)).heap.size size (some ⟨w.heap.size, 0, none⟩) n xs := by
  subst hx
  refine ⟨by simpa using hn, fun _ => ⟨w.heap.size, 0, rfl, by simp, fun j u hu => ?_⟩⟩
  rw [blk_cell (heap_alloc_new w _)]
  simpa using hu
/-- append of a row, nil or not; and where it lies then -/
theorem run_app_row_at {P : Program} {w : World} {T ty : TypeId} {E : TypeId} {size bytes : Nat} (hE : EI P T E size bytes) {base n : Nat} {v : Value} {xs : List Value} (hown : w.ownsRow base E size v n xs)
    {B m c : Nat} {A : Option Addr} {news : List Value} (hr : Row w B size A m news) (h1 : ∀ u ∈ news, u.oneCell' = true) (h63 : n + m ≤ 1000000000000) (hbytes : bytes ≤ 100) (hbase : base ≤ w.heap.size) :
    ∃ v' w', (Builtin.append_ #[T, T] ty #[v, .slice A m c]).run P w = .ok v' w' ∧ w'.ownsRow base E size v' (n + m) (xs ++ news) ∧ w.grownBy w' v.ownBlock ∧ At w.heap.size v v' := by
  obtain ⟨i, z, hi, hz, hs1, hs2, hs3⟩ := hE.info
  rcases Nat.eq_zero_or_pos m with h0 | h0
  · subst h0
    have hn : news = [] := List.eq_nil_of_length_eq_zero (by simpa using hr.1)
    subst hn
    refine ⟨v, w, ?_, by simpa using hown, World.grownBy.refl w _, fun _ h => .inl h⟩
    rcases A with _ | ad
    · rcases hown.2 with ⟨rfl, rfl⟩ | ⟨g, cap, cur, rfl, _, _, hnc, _⟩
      · simp [Builtin.append_, run_underlying hE.ht, sizeOf, typeInfo, hi, Builtin.lenOf, Builtin.firstCells]
      · simp [Builtin.append_, run_underlying hE.ht, sizeOf, typeInfo, hi, Builtin.lenOf, Builtin.firstCells, hnc, storeCells]
    · rcases hown.2 with ⟨rfl, rfl⟩ | ⟨g, cap, cur, rfl, _, _, hnc, _⟩
      · simp [Builtin.append_, run_underlying hE.ht, sizeOf, typeInfo, hi, Builtin.lenOf, Builtin.firstCells, loadCells, loadCellsFrom]
      · simp [Builtin.append_, run_underlying hE.ht, sizeOf, typeInfo, hi, Builtin.lenOf, Builtin.firstCells, loadCells, loadCellsFrom, hnc, storeCells]
  · obtain ⟨b, o, rfl, _, hc⟩ := hr.2 h0
    have hcell : ∀ j u, news[j]? = some u → w.cell? ((⟨b, o, none⟩ : Addr).add j) = some u := by
      intro j u hu
      have : (⟨b, o, none⟩ : Addr).add j = ⟨b, o + j, none⟩ := by unfold Addr.add; split <;> simp_all
      rw [this]; exact hc j u hu
    obtain ⟨v', w', h2, h3, h4, _, h5⟩ := run_append_own_at (P := P) w base T ty E i z size bytes hE.ht hi hz hs1 hs2 hs3 hE.pos v n xs hown ⟨b, o, none⟩ m c news hr.1 hcell h1
      (by unfold maxLen; omega) (by have := Nat.mul_le_mul h63 hbytes; omega) hbase
    refine ⟨v', w', h2, h3, h4, fun q hq => ?_⟩
    rcases h5 with e | e
    · rw [e] at hq; exact .inl hq
    · rw [e] at hq; simp at hq; exact .inr (by omega)

theorem wp_app_row_at {P : Program} {w : World} {o : Oper} {a : Act} {K : Act → World → Prop} {Q : Exit → Act → World → Prop} (s x : Operand) {T : TypeId}
    (ho : o.op = .call { callee := .builtin .append, args := #[s, x], argTypes := #[T, T] })
    {E : TypeId} {size bytes : Nat} (hE : EI P T E size bytes) {base n : Nat} {v : Value} {xs : List Value} (hs : a.eval s = v) (hown : w.ownsRow base E size v n xs)
    {B m c : Nat} {A : Option Addr} {news : List Value} (hx : a.eval x = .slice A m c) (hr : Row w B size A m news) (h1 : ∀ u ∈ news, u.oneCell' = true) (h63 : n + m ≤ 1000000000000) (hbytes : bytes ≤ 100) (hbase : base ≤ w.heap.size)
    (h : ∀ v' w', w'.ownsRow base E size v' (n + m) (xs ++ news) → Hid (w.grownBy w' v.ownBlock) → Below base w w' → Hid (At w.heap.size v v') → K (a.put o.dst v') w') : o.wp P a w K Q := by
  obtain ⟨v', w', hrun, h2, h3, h4⟩ := run_app_row_at (ty := o.type) (c := c) hE hown hr h1 h63 hbytes hbase
  unfold Oper.wp execOp
  simp only [ho, resolve, invoke, builtin, Sem.run_bind, Sem.run_pure, Result.andThen_ok, List.map_toArray, List.map_cons, List.map_nil, hs, hx, hrun]
  exact h v' w' h2 h3 (below_grown (Below.refl _ _) hown (Below.refl _ _) h3 hbase) h4
end Go.Proofs.YtkfhkfagmokjpaaGreatDoor

namespace Go.Proofs.YtkfhkfagmokjpaaGreatDoor
open Go.RowKit

def betB (r a b : Int) : Bool := decide (a ≤ r ∧ r ≤ b)
def blankB (r : Int) : Bool := decide ((9 ≤ r ∧ r ≤ 13) ∨ r = 32 ∨ r = 160 ∨ r = 8195 ∨ r = 12288)
def asciiB (r : Int) : Bool := decide ((33 ≤ r ∧ r ≤ 47) ∨ (58 ≤ r ∧ r ≤ 64) ∨ (91 ≤ r ∧ r ≤ 96) ∨ (123 ≤ r ∧ r ≤ 126))
def punctB (r : Int) : Bool := decide (((33 ≤ r ∧ r ≤ 47) ∨ (58 ≤ r ∧ r ≤ 64) ∨ (91 ≤ r ∧ r ≤ 96) ∨ (123 ≤ r ∧ r ≤ 126)) ∨ r = 161 ∨ r = 167 ∨ (8208 ≤ r ∧ r ≤ 8231) ∨ r = 12289 ∨ r = 12290)
theorem ret_bool {a b : Bool} (h : a = b) : Ending.returned (.bool a) = .returned (.bool b) := by rw [h]

set_option maxHeartbeats 1000000 in
theorem between_any (r a b : Int) (w : World) :
    Calls Tryz.prog 97 #[.int .i32 r, .int .i32 a, .int .i32 b] w fun e w' => e = .returned (.bool (betB r a b)) ∧ w = w' := by
  go_enter Tryz.func97, Tryz.ntmps97
  go_wp2
  all_goals go_ret
  all_goals (refine ⟨ret_bool ?_, rfl⟩; (try simp only [beq_iff_eq, beq_eq_false_iff_ne, ne_eq] at *); rw [Bool.eq_iff_iff]; simp [betB]; try omega)

set_option maxHeartbeats 1000000 in
theorem blank_any (r : Int) (w : World) :
    Calls Tryz.prog 80 #[.int .i32 r] w fun e w' => e = .returned (.bool (blankB r)) ∧ w = w' := by
  go_enter Tryz.func80, Tryz.ntmps80
  go_wp2
  all_goals go_ret
  all_goals (refine ⟨ret_bool ?_, rfl⟩; (try simp only [beq_iff_eq, beq_eq_false_iff_ne, ne_eq] at *); rw [Bool.eq_iff_iff]; simp [blankB]; try omega)

set_option maxHeartbeats 1000000 in
theorem rblank_any (r : Int) (w : World) :
    Calls Tryz.prog 52 #[.int .i32 r] w fun e w' => e = .returned (.bool (blankB r)) ∧ w = w' := by
  go_enter Tryz.func52, Tryz.ntmps52
  go_wp2
  all_goals go_ret
  all_goals (refine ⟨ret_bool ?_, rfl⟩; (try simp only [beq_iff_eq, beq_eq_false_iff_ne, ne_eq] at *); rw [Bool.eq_iff_iff]; simp [blankB]; try omega)

set_option maxHeartbeats 1000000 in
theorem rascii_any (r : Int) (w : World) :
    Calls Tryz.prog 55 #[.int .i32 r] w fun e w' => e = .returned (.bool (asciiB r)) ∧ w = w' := by
  go_enter Tryz.func55, Tryz.ntmps55
  go_wp2
  all_goals go_ret
  all_goals (refine ⟨ret_bool ?_, rfl⟩; (try simp only [beq_iff_eq, beq_eq_false_iff_ne, ne_eq] at *); rw [Bool.eq_iff_iff]; simp [asciiB]; try omega)

set_option maxHeartbeats 1000000 in
theorem punct_any (r : Int) (w : World) :
    Calls Tryz.prog 86 #[.int .i32 r] w fun e w' => e = .returned (.bool (punctB r)) ∧ w = w' := by
  go_enter Tryz.func86, Tryz.ntmps86
  go_wp2_with (first | (go_at_call 97; refine (between_any _ _ _ _).mono ?_; rintro e w' ⟨rfl, rfl⟩))
  all_goals go_ret
  all_goals (refine ⟨ret_bool ?_, rfl⟩; (try simp only [beq_iff_eq, beq_eq_false_iff_ne, ne_eq] at *); rw [Bool.eq_iff_iff]; simp_all [punctB, betB]; try omega)

set_option maxHeartbeats 1000000 in
theorem rpunct_any (r : Int) (w : World) :
    Calls Tryz.prog 54 #[.int .i32 r] w fun e w' => e = .returned (.bool (punctB r)) ∧ w = w' := by
  go_enter Tryz.func54, Tryz.ntmps54
  go_wp2_with (first | (go_at_call 55; refine (rascii_any _ _).mono ?_; rintro e w' ⟨rfl, rfl⟩))
  all_goals go_ret
  all_goals (refine ⟨ret_bool ?_, rfl⟩; (try simp only [beq_iff_eq, beq_eq_false_iff_ne, ne_eq] at *); rw [Bool.eq_iff_iff]; simp_all [punctB, asciiB]; try omega)

end Go.Proofs.YtkfhkfagmokjpaaGreatDoor

namespace Go.Proofs.YtkfhkfagmokjpaaGreatDoor.Cl

def isGap (b : UInt8) : Bool := b == 32 || b == 9
/-- the column behind b, which begins at column c -/
def step (c : Nat) (b : UInt8) : Nat := if b = 9 then c - c % 4 + 4 else c + 1
theorem step_le (c : Nat) (b : UInt8) : c < step c b ∧ step c b ≤ c + 4 := by
  unfold step; split
  · have : c % 4 < 4 := Nat.mod_lt _ (by omega)
    omega
  · omega

/-- the blanks and tabs from column c on until n columns are reached: the columns, the bytes -/
def lead (n : Int) : List UInt8 → Nat → Nat × Nat
  | [], c => (c, 0)
  | b :: r, c => if (c : Int) < n ∧ isGap b = true then ((lead n r (step c b)).1, (lead n r (step c b)).2 + 1) else (c, 0)

/-- what stands at place k, begun at column c -/
def fin (n : Int) (l : List UInt8) (k c : Nat) : Nat × Nat := ((lead n (l.drop k) c).1, k + (lead n (l.drop k) c).2)
/-- without the first n columns -/
def strip (n : Int) (l : List UInt8) : List UInt8 := List.replicate ((lead n l 0).1 - n.toNat) 32 ++ l.drop (lead n l 0).2
/-- all columns -/
def width : List UInt8 → Nat → Nat
  | [], c => c
  | b :: r, c => width r (step c b)
/-- a number that no column reaches -/
def inf : Int := 9223372036854775807
end Go.Proofs.YtkfhkfagmokjpaaGreatDoor.Cl

namespace Go.Proofs.YtkfhkfagmokjpaaGreatDoor.Cl

/-- no column of so short a text reaches inf -/
def small (l : List UInt8) (c : Nat) : Prop := c + 4 * l.length < 9223372036854775807

/-- the blanks and tabs at a text's beginning -/
def gaps : List UInt8 → Nat
  | [] => 0
  | b :: r => if isGap b then gaps r + 1 else 0
/-- the rest behind the blanks and tabs -/
def rest (l : List UInt8) : List UInt8 := l.drop (gaps l)
end Go.Proofs.YtkfhkfagmokjpaaGreatDoor.Cl

namespace Go.Proofs.YtkfhkfagmokjpaaGreatDoor.Fn
open Go.Proofs.YtkfhkfagmokjpaaGreatDoor.Cl

/-- how many of c are at the beginning -/
def run (c : UInt8) : List UInt8 → Nat
  | [] => 0
  | b :: r => if b = c then run c r + 1 else 0
theorem run_go {c b : UInt8} (r : List UInt8) (h : b = c) : run c (b :: r) = run c r + 1 := by simp [run, h]
theorem run_stop {c b : UInt8} (r : List UInt8) (h : b ≠ c) : run c (b :: r) = 0 := by simp [run, h]
theorem run_le (c : UInt8) (l : List UInt8) : run c l ≤ l.length := by
  induction l with
  | nil => simp [run]
  | cons b r ih => simp only [run, List.length_cons]; split <;> omega
theorem run_at {c : UInt8} {l : List UInt8} {k : Nat} (hk : k < l.length) (h : l[k] = c) : run c (l.drop k) = run c (l.drop (k + 1)) + 1 := by
  rw [List.drop_eq_getElem_cons hk, run_go _ h]
theorem run_no {c : UInt8} {l : List UInt8} {k : Nat} (hk : k < l.length) (h : l[k] ≠ c) : run c (l.drop k) = 0 := by
  rw [List.drop_eq_getElem_cons hk, run_stop _ h]
theorem run_end {c : UInt8} {l : List UInt8} {k : Nat} (hk : ¬ k < l.length) : run c (l.drop k) = 0 := by
  rw [List.drop_eq_nil_of_le (by omega)]; rfl
/-- the longest run of the sign 96 -/
def lg : List UInt8 → Nat
  | [] => 0
  | b :: r => max (run 96 (b :: r)) (lg r)
/-- the longest of some texts -/
def lgs : List (List UInt8) → Nat
  | [] => 0
  | s :: r => max (lg s) (lgs r)
/-- how many signs a fence needs -/
def long (ls : List (List UInt8)) : Nat := max (lgs ls + 1) 3

/-- without the blanks and tabs ahead -/
def front : List UInt8 → List UInt8
  | [] => []
  | b :: r => if isGap b then front r else b :: r
/-- without those at the end -/
def back : List UInt8 → List UInt8
  | [] => []
  | b :: r => if back r = [] ∧ isGap b = true then [] else b :: back r
/-- without those around -/
def trim (l : List UInt8) : List UInt8 := back (front l)
/-- the sign, how many, how far in, the info -/
structure Op where
  c : UInt8
  n : Nat
  ind : Nat
  info : List UInt8

/-- how many columns a line is in, and what is behind them -/
def cl (l : List UInt8) : Nat := (lead inf l 0).1
def rs (l : List UInt8) : List UInt8 := l.drop (lead inf l 0).2

/-- the info behind the signs -/
def info (r : List UInt8) (c : UInt8) : List UInt8 := trim (r.drop (run c r))
/-- the fence that a line begins -/
def begins (l : List UInt8) : Option Op :=
  match rs l with
  | [] => none
  | c :: r => if cl l ≤ 3 ∧ (c = 96 ∨ c = 126) ∧ 3 ≤ run c (c :: r) ∧ ¬ (c = 96 ∧ 96 ∈ info (c :: r) c) then some ⟨c, run c (c :: r), cl l, info (c :: r) c⟩ else none
/-- nothing but blanks and tabs -/
def emp (l : List UInt8) : Bool := decide ((lead inf l 0).2 = l.length)
/-- a line that ends a fence of the sign c, n of it -/
def ends (c : UInt8) (n : Int) (l : List UInt8) : Bool := decide (1 ≤ n ∧ cl l ≤ 3 ∧ n ≤ (run c (rs l) : Int)) && emp ((rs l).drop (run c (rs l)))
end Go.Proofs.YtkfhkfagmokjpaaGreatDoor.Fn

namespace Go.Proofs.YtkfhkfagmokjpaaGreatDoor.Cd

/-- a line's end as a blank -/
def nl (b : UInt8) : UInt8 := if b = 10 then 32 else b
def flat (l : List UInt8) : List UInt8 := l.map nl
theorem flat_len (l : List UInt8) : (flat l).length = l.length := by simp [flat]
def blanks (l : List UInt8) : Bool := l.all (· == 32)
/-- without the blanks that are first and last, if both are, and not all are -/
def clean (l : List UInt8) : List UInt8 :=
  if blanks (flat l) = false ∧ (flat l).getD 0 0 = 32 ∧ (flat l).getD ((flat l).length - 1) 0 = 32 then mid (flat l) 1 ((flat l).length - 1) else flat l
theorem clean_len (l : List UInt8) : (clean l).length ≤ l.length := by
  have h := flat_len l
  unfold clean
  split
  · unfold Go.Proofs.YtkfhkfagmokjpaaGreatDoor.mid; rw [List.length_take, List.length_drop]; omega
  · omega
theorem flat_take {l : List UInt8} {k : Nat} (h : k < l.length) : flat (l.take (k + 1)) = flat (l.take k) ++ [nl l[k]] := by
  rw [List.take_succ_eq_append_getElem h]; unfold flat; rw [List.map_append]; rfl
/-- the first row of just n of ` from a place on, by at most so many steps -/
def findF : Nat → List UInt8 → Nat → Nat → Option Nat
  | 0, _, _, _ => none
  | f + 1, l, n, i => if i < l.length then (if Fn.run 96 (l.drop i) = n then some i else findF f l n (i + max (Fn.run 96 (l.drop i)) 1)) else none
def find (l : List UInt8) (n i : Nat) : Option Nat := findF (l.length + 1 - i) l n i
theorem findF_fuel : ∀ (f g : Nat) (l : List UInt8) (n i : Nat), l.length < f + i → l.length < g + i → findF f l n i = findF g l n i
  | 0, 0, _, _, _, _, _ => rfl
  | 0, g + 1, l, n, i, h, _ => by unfold findF; rw [if_neg (by omega)]
  | f + 1, 0, l, n, i, _, h => by unfold findF; rw [if_neg (by omega)]
  | f + 1, g + 1, l, n, i, hf, hg => by
    unfold findF
    rw [findF_fuel f g l n _ (by omega) (by omega)]
theorem find_end {l : List UInt8} {n i : Nat} (h : l.length ≤ i) : find l n i = none := by
  unfold find
  cases hf : l.length + 1 - i with
  | zero => rfl
  | succ f => unfold findF; rw [if_neg (by omega)]
theorem find_step {l : List UInt8} {n i : Nat} (h : i < l.length) : find l n i = if Fn.run 96 (l.drop i) = n then some i else find l n (i + max (Fn.run 96 (l.drop i)) 1) := by
  unfold find
  obtain ⟨f, hf⟩ : ∃ f, l.length + 1 - i = f + 1 := ⟨l.length - i, by omega⟩
  rw [hf]
  conv => lhs; unfold findF
  rw [if_pos h, findF_fuel f _ l n _ (by omega) (Nat.lt_of_lt_of_le (show l.length < (l.length + 1 - (i + max (Fn.run 96 (l.drop i)) 1)) + (i + max (Fn.run 96 (l.drop i)) 1) by omega) (Nat.le_refl _))]
theorem find_yes {l : List UInt8} {n i : Nat} (h : i < l.length) (hr : Fn.run 96 (l.drop i) = n) : find l n i = some i := by rw [find_step h, if_pos hr]
theorem find_no {l : List UInt8} {n i : Nat} (h : i < l.length) (hr : Fn.run 96 (l.drop i) ≠ n) : find l n i = find l n (i + max (Fn.run 96 (l.drop i)) 1) := by rw [find_step h, if_neg hr]

/-- within a row all are signs; behind it none is -/
theorem runs_in {c : UInt8} : ∀ {l : List UInt8} {j : Nat}, j < Fn.run c l → l.getD j 0 = c
  | [], j, h => by simp [Fn.run] at h
  | b :: r, j, h => by
    by_cases hb : b = c
    · rw [Fn.run_go r hb] at h
      cases j with
      | zero => simpa using hb
      | succ j => have := runs_in (c := c) (l := r) (j := j) (by omega); simpa using this
    · rw [Fn.run_stop r hb] at h; omega
theorem run_behind {c : UInt8} : ∀ {l : List UInt8}, Fn.run c l < l.length → l.getD (Fn.run c l) 0 ≠ c
  | [], h => by simp at h
  | b :: r, h => by
    by_cases hb : b = c
    · rw [Fn.run_go r hb] at h ⊢
      have := run_behind (c := c) (l := r) (by simp at h; omega)
      simpa using this
    · rw [Fn.run_stop r hb]; simpa using hb
theorem run_drop_behind (c : UInt8) (l : List UInt8) (i : Nat) : Fn.run c (l.drop (i + Fn.run c (l.drop i))) = 0 := by
  by_cases h : i + Fn.run c (l.drop i) < l.length
  · refine Fn.run_no h ?_
    have hb := run_behind (c := c) (l := l.drop i) (by rw [List.length_drop]; omega)
    simpa [List.getD, List.getElem?_eq_getElem h] using hb
  · exact Fn.run_end h
theorem run_one {c : UInt8} {l : List UInt8} (hn : Fn.run c l = 0) (h : 0 < l.length) : l.getD 0 0 ≠ c := by
  have := run_behind (c := c) (l := l) (by omega)
  rwa [hn] at this

/-- what is found: a row of n, a row's beginning, and no such row ahead -/
theorem find_spec {l : List UInt8} {n : Nat} (hn : 1 ≤ n) : ∀ (f i p : Nat), findF f l n i = some p →
    i ≤ p ∧ p < l.length ∧ Fn.run 96 (l.drop p) = n ∧ (p = i ∨ l.getD (p - 1) 0 ≠ 96) ∧ ∀ j, i ≤ j → j < p → (j = i ∨ l.getD (j - 1) 0 ≠ 96) → Fn.run 96 (l.drop j) ≠ n
  | 0, _, _, h => by simp [findF] at h
  | f + 1, i, p, h => by
    unfold findF at h
    by_cases hi : i < l.length
    · rw [if_pos hi] at h
      by_cases hr : Fn.run 96 (l.drop i) = n
      · rw [if_pos hr] at h
        injection h with h; subst h
        exact ⟨Nat.le_refl _, hi, hr, .inl rfl, fun j h1 h2 => by omega⟩
      · rw [if_neg hr] at h
        obtain ⟨k, hk⟩ : ∃ k, k = Fn.run 96 (l.drop i) := ⟨_, rfl⟩
        rw [← hk] at h hr
        obtain ⟨g1, g2, g3, g4, g5⟩ := find_spec hn f _ p h
        refine ⟨by omega, g2, g3, ?_, ?_⟩
        · rcases g4 with g4 | g4
          · right
            rcases Nat.eq_zero_or_pos k with h0 | h0
            · have : p - 1 = i := by omega
              rw [this]
              have hb := run_one (c := 96) (l := l.drop i) (by omega) (by rw [List.length_drop]; omega)
              simpa [List.getD] using hb
            · exfalso
              have hb := run_drop_behind 96 l i
              rw [← hk, show i + k = p by omega] at hb
              omega
          · exact .inr g4
        · intro j h1 h2 h3
          by_cases hji : j = i
          · subst hji; rw [← hk]; exact hr
          · by_cases hjn : j < i + max k 1
            · exfalso
              rcases h3 with h3 | h3
              · exact hji h3
              · have hin := runs_in (c := 96) (l := l.drop i) (j := j - 1 - i) (by omega)
                rw [List.getD_eq_getElem?_getD, List.getElem?_drop, show i + (j - 1 - i) = j - 1 by omega] at hin
                exact h3 (by rw [List.getD_eq_getElem?_getD]; exact hin)
            · refine g5 j (by omega) h2 ?_
              rcases h3 with h3 | h3
              · exact absurd h3 hji
              · exact .inr h3
    · rw [if_neg hi] at h; simp at h

/-- a span that begins at a place: what is between, cleaned, and where it ends -/
def opens (l : List UInt8) (at_ : Int) : Bool := decide (0 ≤ at_ ∧ at_.toNat < l.length ∧ l.getD at_.toNat 0 = 96 ∧ (at_.toNat = 0 ∨ l.getD (at_.toNat - 1) 0 ≠ 96))
def span (l : List UInt8) (at_ : Int) : Option (List UInt8 × Nat) :=
  if opens l at_ = true then (find l (Fn.run 96 (l.drop at_.toNat)) (at_.toNat + Fn.run 96 (l.drop at_.toNat))).map fun i => (clean (mid l (at_.toNat + Fn.run 96 (l.drop at_.toNat)) i), i + Fn.run 96 (l.drop at_.toNat)) else none
theorem span_off {l : List UInt8} {at_ : Int} (h : opens l at_ = false) : span l at_ = none := by unfold span; rw [if_neg (by rw [h]; decide)]
theorem span_on {l : List UInt8} {at_ : Int} {n : Nat} (h : opens l at_ = true) (hn : Fn.run 96 (l.drop at_.toNat) = n) :
    span l at_ = (find l n (at_.toNat + n)).map fun i => (clean (mid l (at_.toNat + n) i), i + n) := by unfold span; rw [if_pos h, hn]
theorem opens_run {l : List UInt8} {at_ : Int} (h : opens l at_ = true) : 1 ≤ Fn.run 96 (l.drop at_.toNat) := by
  unfold opens at h
  have h := of_decide_eq_true h
  have hk := h.2.1
  have : l[at_.toNat] = 96 := by simpa [List.getD, List.getElem?_eq_getElem hk] using h.2.2.1
  rw [Fn.run_at hk this]; omega

/-- of a span: as many signs at its end as at its beginning, something between, no such row within -/
theorem span_spec {l : List UInt8} {at_ : Int} {t : List UInt8} {e : Nat} (h : span l at_ = some (t, e)) :
    1 ≤ Fn.run 96 (l.drop at_.toNat) ∧ e ≤ l.length ∧ at_.toNat + 2 * Fn.run 96 (l.drop at_.toNat) + 1 ≤ e ∧ Fn.run 96 (l.drop (e - Fn.run 96 (l.drop at_.toNat))) = Fn.run 96 (l.drop at_.toNat) ∧
      l.getD (e - Fn.run 96 (l.drop at_.toNat) - 1) 0 ≠ 96 ∧ (∀ i, at_.toNat + Fn.run 96 (l.drop at_.toNat) ≤ i → i < e - Fn.run 96 (l.drop at_.toNat) → l.getD (i - 1) 0 ≠ 96 → Fn.run 96 (l.drop i) ≠ Fn.run 96 (l.drop at_.toNat)) ∧ t.length ≤ l.length := by
  cases ho : opens l at_ with
  | false => rw [span_off ho] at h; simp at h
  | true =>
    have hn := opens_run ho
    obtain ⟨n, hne⟩ : ∃ n, n = Fn.run 96 (l.drop at_.toNat) := ⟨_, rfl⟩
    rw [span_on ho hne.symm] at h
    rw [← hne] at hn ⊢
    obtain ⟨p, hp, hpe⟩ := Option.map_eq_some_iff.1 h
    injection hpe with e1 e2
    subst e1 e2
    obtain ⟨g1, g2, g3, g4, g5⟩ := find_spec hn _ _ _ hp
    have hb := run_drop_behind 96 l at_.toNat
    rw [← hne] at hb
    have hne2 : p ≠ at_.toNat + n := by intro hc; rw [hc, hb] at g3; omega
    have g4' : l.getD (p - 1) 0 ≠ 96 := by
      rcases g4 with g4 | g4
      · exact absurd g4 hne2
      · exact g4
    have hle := Fn.run_le 96 (l.drop p)
    rw [List.length_drop, g3] at hle
    rw [show p + n - n = p by omega]
    refine ⟨hn, by omega, by omega, g3, g4', fun i h1 h2 h3 => g5 i h1 h2 (.inr h3), ?_⟩
    have := clean_len (mid l (at_.toNat + n) p)
    rw [mid_len (by omega)] at this
    omega

end Go.Proofs.YtkfhkfagmokjpaaGreatDoor.Cd

namespace Go.Proofs.YtkfhkfagmokjpaaGreatDoor
open Go.RowKit

theorem run_byte {S : List UInt8} {i : Nat} (h : i < S.length) (w : World) :
    (Instr.index 9 (.string (bs S)) (.int .i64 (i : Int))).run Tryz.prog w = .ok (.int .u8 (S[i].toNat : Int)) w := by
  have hs := bs_size S
  rw [run_index_string w 9 (bs S) .i64 (i : Int) Tryz.underlying9, dif_pos ⟨by omega, by omega⟩]
  rfl

theorem byte_eq {b : UInt8} {n : Nat} (hn : n < 256) (h : b = UInt8.ofNat n) : ((b.toNat : Int) == (n : Int)) = true := by
  subst h; simp; omega

theorem byte_ne {b : UInt8} {n : Nat} (hn : n < 256) (h : b ≠ UInt8.ofNat n) : ((b.toNat : Int) == (n : Int)) = false := by
  rw [beq_eq_false_iff_ne]; intro he; apply h
  have : b.toNat = n := by omega
  subst this; simp

/-- a text from a place on -/
theorem run_from {S : List UInt8} {i : Nat} (h : i ≤ S.length) (w : World) :
    (Instr.slice 9 (.string (bs S)) (some (.int .i64 (i : Int))) none none).run Tryz.prog w = .ok (.string (bs (S.drop i))) w := by
  have hs := bs_size S
  have he : (bs S).extract i (bs S).size = bs (S.drop i) := by
    apply ByteArray.ext
    simp only [bs, ByteArray.data_extract, List.extract_toArray, List.extract_eq_take_drop]
    rw [List.take_of_length_le (by simp [ByteArray.size])]
  have h1 : (0 : Int) ≤ (i : Int) ∧ (i : Int) ≤ ((bs S).size : Int) := by omega
  simp [Instr.slice, run_underlying Tryz.underlying9, Instr.sliceBounds, run_sliceBound, h1, he, go_sem]

/-- a text up to a place -/
theorem run_upto {S : List UInt8} {i : Nat} (h : i ≤ S.length) (w : World) :
    (Instr.slice 9 (.string (bs S)) none (some (.int .i64 (i : Int))) none).run Tryz.prog w = .ok (.string (bs (S.take i))) w := by
  have hs := bs_size S
  have he : (bs S).extract 0 i = bs (S.take i) := by
    apply ByteArray.ext
    simp only [bs, ByteArray.data_extract, List.extract_toArray, List.extract_eq_take_drop]
    simp
  have h1 : (0 : Int) ≤ (i : Int) ∧ (i : Int) ≤ ((bs S).size : Int) := by omega
  simp [Instr.slice, run_underlying Tryz.underlying9, Instr.sliceBounds, run_sliceBound, h1, he, go_sem]

theorem byte_same {a b : UInt8} (h : a = b) : ((a.toNat : Int) == (b.toNat : Int)) = true := by subst h; simp

theorem byte_diff {a b : UInt8} (h : a ≠ b) : ((a.toNat : Int) == (b.toNat : Int)) = false := by
  rw [beq_eq_false_iff_ne]; intro he; exact h (UInt8.toNat_inj.1 (by omega))

theorem ret_i64 {a b : Int} (h : a = b) : Ending.returned (.int .i64 a) = .returned (.int .i64 b) := by rw [h]

/-- a text from a place to another -/
theorem run_mid {S : List UInt8} {i j : Nat} (h : i ≤ j) (hj : j ≤ S.length) (w : World) :
    (Instr.slice 9 (.string (bs S)) (some (.int .i64 (i : Int))) (some (.int .i64 (j : Int))) none).run Tryz.prog w = .ok (.string (bs (mid S i j))) w := by
  have hs := bs_size S
  have he : (bs S).extract i j = bs (mid S i j) := by
    apply ByteArray.ext
    simp only [bs, ByteArray.data_extract, List.extract_toArray, List.extract_eq_take_drop, mid]
  have hr := run_slice_string (P := Tryz.prog) w 9 (bs S) .i64 .i64 (i : Int) (j : Int) Tryz.underlying9 (by omega) (by omega) (by omega)
  rw [hr, show ((i : Int)).toNat = i from by omega, show ((j : Int)).toNat = j from by omega, he]
/-- a byte of a text, as a text -/
theorem run_one_at {S : List UInt8} {i : Nat} (h : i < S.length) {v u : Int} (hv : v = (i : Int)) (hu : u = (i : Int) + 1) (w : World) :
    (Instr.slice 9 (.string (bs S)) (some (.int .i64 v)) (some (.int .i64 u)) none).run Tryz.prog w = .ok (.string (bs [S[i]])) w := by
  subst hv hu
  have hs := bs_size S
  have he : (bs S).extract i (i + 1) = bs [S[i]] := by
    apply ByteArray.ext
    simp only [bs, ByteArray.data_extract, List.extract_toArray, List.extract_eq_take_drop]
    rw [List.drop_eq_getElem_cons h, show i + 1 - i = 1 from by omega]; rfl
  have hr := run_slice_string (P := Tryz.prog) w 9 (bs S) .i64 .i64 (i : Int) ((i : Int) + 1) Tryz.underlying9 (by omega) (by omega) (by omega)
  rw [hr, show ((i : Int)).toNat = i from by omega, show ((i : Int) + 1).toNat = i + 1 from by omega, he]
theorem run_one {S : List UInt8} {i : Nat} (h : i < S.length) (w : World) :
    (Instr.slice 9 (.string (bs S)) (some (.int .i64 (i : Int))) (some (.int .i64 ((i : Int) + 1))) none).run Tryz.prog w = .ok (.string (bs [S[i]])) w := run_one_at h rfl rfl w
theorem run_byte_at {S : List UInt8} {i : Nat} (h : i < S.length) {v : Int} (hv : v = (i : Int)) (w : World) :
    (Instr.index 9 (.string (bs S)) (.int .i64 v)).run Tryz.prog w = .ok (.int .u8 (S[i].toNat : Int)) w := by
  subst hv; exact run_byte h w

end Go.Proofs.YtkfhkfagmokjpaaGreatDoor

namespace Go.Proofs.YtkfhkfagmokjpaaGreatDoor
open Go.RowKit

theorem wpList_app_row {P : Program} {w0 : World} {ops : Array Oper} {rest : List Oper} {o : Oper} {a : Act} {Q : Exit → Act → World → Prop} (hgd : o.guard = none) (s x : Operand) {T : TypeId}
    (ho : o.op = .call { callee := .builtin .append, args := #[s, x], argTypes := #[T, T] })
    {E : TypeId} {size bytes : Nat} (hE : EI P T E size bytes) {base n : Nat} {v : Value} {xs : List Value} (hs : a.eval s = v) (hown : w0.ownsRow base E size v n xs)
    {ad : Addr} {k c : Nat} (news : List Value) (hx : a.eval x = .slice (some ad) k c) (hl : news.length = k * size) (hc : ∀ j u, news[j]? = some u → w0.cell? (ad.add j) = some u) (h1 : ∀ u ∈ news, u.oneCell' = true)
    (h63 : n + k ≤ 1000000000000) (hbytes : bytes ≤ 100) (hbase : base ≤ w0.heap.size)
    (h : ∀ v' w', w'.ownsRow base E size v' (n + k) (xs ++ news) → Hid (w0.grownBy w' v.ownBlock) → Below base w0 w' → Hid (At w0.heap.size v v') → wpList P ops Q rest (a.put o.dst v') w') :
    wpList P ops Q (o :: rest) a w0 := by
  obtain ⟨i, z, hi, hz, hs1, hs2, hs3⟩ := hE.info
  refine wpList_append_own_at _ hgd s x T ho base E i z size bytes hE.ht hi hz hs1 hs2 hs3 hE.pos v n xs hs hown ad k c news hx hl hc h1
    (by unfold maxLen; omega) (by have := Nat.mul_le_mul h63 hbytes; omega) hbase ?_
  intro v' w' hw hgr _ hat
  refine h v' w' hw hgr (below_grown (Below.refl _ _) hown (Below.refl _ _) hgr hbase) ?_
  intro q hq
  rcases hat with e | e
  · rw [e] at hq; exact .inl hq
  · rw [e] at hq; simp at hq; exact .inr (by omega)
end Go.Proofs.YtkfhkfagmokjpaaGreatDoor

namespace Go.Proofs.YtkfhkfagmokjpaaGreatDoor
open Go.RowKit

/-- make of as many elements as there is room for -/
theorem run_mk {P : Program} {T E : TypeId} {size bytes : Nat} (hE : EI P T E size bytes) {z : Value} (hz : (P.info? E).map (fun i => i.zero) = some (some z)) (n : Nat) (hn : n ≤ 1000000000) (hb : bytes ≤ 1000) (w : World) :
    (Instr.makeSlice T (.int .i64 (n : Int)) (.int .i64 (n : Int))).run P w = .ok (.slice (some ⟨w.heap.size, 0, none⟩) n n) (w.alloc (.cells (madeCells z.cells (n * size)) E)) := by
  obtain ⟨i, z', hi, hz', hs1, hs2, hs3⟩ := hE.info
  have hzz : i.zero = some z := by rw [hi] at hz; simpa using hz
  have hm : bytes * n ≤ 1000 * 1000000000 := Nat.mul_le_mul hb hn
  have hm' : (i.bytes : Int) * (n : Int) ≤ 281474976710656 := by
    rw [hs2, ← Int.natCast_mul]; omega
  have := run_make (P := P) w T E i z hE.ht hi hzz .i64 .i64 (n : Int) (n : Int) (by omega) (Int.le_refl _) hm' (by omega)
  rw [Int.toNat_natCast, hs1] at this
  exact this
/-- what it owns -/
theorem own_mk (w : World) (B size n : Nat) (E : TypeId) (z : Array Value) (hB : B ≤ w.heap.size) (hn : n ≤ 1000000000) : (w.alloc (.cells (madeCells z (n * size)) E)).ownsRow B E size (.slice (some ⟨w.heap.size, 0, none⟩) n n) n (madeCells z (n * size)).toList :=
  World.ownsRow_lit w _ n hB (by unfold maxLen; omega) (size_madeCells _ _)
end Go.Proofs.YtkfhkfagmokjpaaGreatDoor

namespace Go.Proofs.YtkfhkfagmokjpaaGreatDoor
open Go.RowKit

theorem runs_end2 {c : UInt8} {l : List UInt8} {a k : Nat} (h : Hid (k + Fn.run c (l.drop (a + k)) = Fn.run c (l.drop a))) (h0 : Fn.run c (l.drop (a + k)) = 0) : k = Fn.run c (l.drop a) := by
  have := h.out; omega

set_option maxHeartbeats 1000000 in
set_option maxRecDepth 100000 in
theorem rrun_any (l : List UInt8) (a : Nat) (c : UInt8) (w : World) (hl : l.length ≤ 140737488355328) (ha : a ≤ l.length) :
    Calls Tryz.prog 25 #[.string (bs l), .int .i64 (a : Int), .int .u8 (c.toNat : Int)] w fun e w' => e = .returned (.int .i64 (Fn.run c (l.drop a) : Nat)) ∧ w = w' := by
  have hsz := bs_size l
  go_enter Tryz.func25, Tryz.ntmps25
  go_wp2_with fail
  go_loop [7] (fun u => ∃ k : Nat, a + k ≤ l.length ∧ u = .int .i64 k ∧ Hid (k + Fn.run c (l.drop (a + k)) = Fn.run c (l.drop a))) (fun u => l.length - (intOf u).toNat)
  case atStart => exact ⟨0, by omega, rfl, Lib.hid (by simp)⟩
  case round =>
    obtain ⟨k, hk, rfl, hf⟩ := hrel
    by_cases hlt : a + k < l.length
    · have hx := run_byte hlt w
      rw [Int.natCast_add] at hx
      by_cases hc : l[a + k] = c
      · have ht := byte_same hc
        have hf2 : Hid (k + 1 + Fn.run c (l.drop (a + (k + 1))) = Fn.run c (l.drop a)) := Lib.hid (by have := hf.out; rw [Fn.run_at hlt hc] at this; rw [← Nat.add_assoc a]; omega)
        clear hc
        go_wp2
        go_round
        case rel => exact ⟨k + 1, by omega, by go_num, hf2⟩
        case measure => simp [intOf]; omega
      · have ht := byte_diff hc
        have hfin := Lib.hid (runs_end2 hf (Fn.run_no hlt hc))
        clear hc
        go_wp2
        go_returns
        exact ⟨by rw [← hfin.out]; rfl, rfl⟩
    · have hfin := Lib.hid (runs_end2 hf (Fn.run_end hlt))
      go_wp2
      go_returns
      exact ⟨by rw [← hfin.out]; rfl, rfl⟩
end Go.Proofs.YtkfhkfagmokjpaaGreatDoor

namespace Go.Proofs.YtkfhkfagmokjpaaGreatDoor
open Go.RowKit

/-- how many stand from a place on, wherever it is -/
def runV (c : UInt8) (l : List UInt8) (at_ : Int) : Nat := if at_ < 0 then 0 else Fn.run c (l.drop at_.toNat)
theorem runV_at (c : UInt8) (l : List UInt8) (k : Nat) : runV c l (k : Int) = Fn.run c (l.drop k) := by unfold runV; rw [if_neg (by omega)]; rfl

/-- a text from a place to another, the places in the walk's own form -/
theorem run_mid_at {S : List UInt8} {i j : Nat} {v u : Int} (h : i ≤ j) (hj : j ≤ S.length) (hv : v = (i : Int)) (hu : u = (j : Int)) (w : World) :
    (Instr.slice 9 (.string (bs S)) (some (.int .i64 v)) (some (.int .i64 u)) none).run Tryz.prog w = .ok (.string (bs (mid S i j))) w := by
  subst hv hu; exact run_mid h hj w

set_option maxHeartbeats 4000000 in
set_option maxRecDepth 100000 in
theorem rclean_any (l : List UInt8) (w : World) (hs : l.length ≤ 140737488351232) :
    Calls Tryz.prog 50 #[.string (bs l)] w fun e w' => e = .returned (.string (bs (Cd.clean l))) ∧ w = w' := by
  have hsz := bs_size l
  obtain ⟨C, hC⟩ : ∃ C, C = Cd.clean l := ⟨_, rfl⟩
  rw [← hC]
  replace hC := Lib.hid hC
  go_enter Tryz.func50, Tryz.ntmps50
  go_wp2_with fail
  go_loop [3, 4, 5] (fun v al i => ∃ (k : Nat) (D : List UInt8), k ≤ l.length ∧ D.length = k ∧ i = .int .i64 k ∧ v = .string (bs D) ∧ Hid (D = Cd.flat (l.take k)) ∧ al = .bool (Cd.blanks D)) (fun _ _ i => l.length - (intOf i).toNat)
  case atStart => exact ⟨0, [], Nat.zero_le _, rfl, rfl, rfl, Lib.hid rfl, rfl⟩
  case round =>
    obtain ⟨k, D, hk, hDk, rfl, rfl, hD, rfl⟩ := hrel
    have hDs := bs_size D
    by_cases hp : k < l.length
    · have hix := run_byte hp w
      have hone := run_one hp w
      have hf := Cd.flat_take hp
      rw [← hD.out] at hf
      obtain ⟨b, hb⟩ : ∃ b, b = l[k] := ⟨_, rfl⟩
      rw [← hb] at hix hone hf
      clear hb
      have hb8 := b.toNat_lt
      have ho1 := bs_size [b]
      simp only [List.length_cons, List.length_nil] at ho1
      by_cases h10 : b = 10
      · have ht : ((b.toNat : Int) == 10) = true := byte_eq (n := 10) (by omega) h10
        have hn : Cd.nl b = 32 := by rw [h10]; rfl
        rw [hn] at hf
        have hcat : bs D ++ (⟨#[32]⟩ : ByteArray) = bs (D ++ [32]) := bs_append D [32]
        have hal : Cd.blanks (D ++ [32]) = Cd.blanks D := by simp [Cd.blanks]
        replace hf := Lib.hid hf
        replace hn := Lib.hid hn
        clear h10
        cases hbl : Cd.blanks D with
        | true =>
          rw [hbl] at hal
          go_wp2
          go_round
          case rel => exact ⟨k + 1, D ++ [32], hp, by simp; omega, by go_num, rfl, Lib.hid hf.out.symm, by rw [hal]⟩
          case measure => simp [intOf]; omega
        | false =>
          rw [hbl] at hal
          go_wp2
          go_round
          case rel => exact ⟨k + 1, D ++ [32], hp, by simp; omega, by go_num, rfl, Lib.hid hf.out.symm, by rw [hal]⟩
          case measure => simp [intOf]; omega
      · have ht : ((b.toNat : Int) == 10) = false := byte_ne (n := 10) (by omega) h10
        have hn : Cd.nl b = b := by unfold Cd.nl; rw [if_neg h10]
        rw [hn] at hf
        have hcat : bs D ++ bs [b] = bs (D ++ [b]) := bs_append D [b]
        have hal : Cd.blanks (D ++ [b]) = (Cd.blanks D && b == 32) := by simp [Cd.blanks]
        have heq : ((bs [b]).toList == (⟨#[32]⟩ : ByteArray).toList) = (b == 32) := by
          rw [show (⟨#[32]⟩ : ByteArray) = bs [32] from rfl, bs_toList, bs_toList]; simp
        have heq2 : ((bs [b]).toList == [32]) = (b == 32) := by rw [bs_toList]; simp
        replace hf := Lib.hid hf
        replace hn := Lib.hid hn
        clear h10
        cases hbl : Cd.blanks D with
        | true =>
          rw [hbl] at hal
          go_wp2
          go_round
          case rel => exact ⟨k + 1, D ++ [b], hp, by simp; omega, by go_num, rfl, Lib.hid hf.out.symm, by rw [hal, Bool.true_and]⟩
          case measure => simp [intOf]; omega
        | false =>
          rw [hbl] at hal
          go_wp2
          go_round
          case rel => exact ⟨k + 1, D ++ [b], hp, by simp; omega, by go_num, rfl, Lib.hid hf.out.symm, by rw [hal]; rfl⟩
          case measure => simp [intOf]; omega
    · have hDe : D = Cd.flat l := by rw [hD.out, List.take_of_length_le (by omega)]
      have hcl : C = if Cd.blanks D = false ∧ D.getD 0 0 = 32 ∧ D.getD (D.length - 1) 0 = 32 then mid D 1 (D.length - 1) else D := by rw [hC.out]; unfold Cd.clean; rw [← hDe]
      clear hDe hD
      cases hbl : Cd.blanks D with
      | true =>
        rw [if_neg (by rw [hbl]; simp)] at hcl
        clear hC
        subst hcl
        go_wp2
        go_ret
        exact ⟨rfl, rfl⟩
      | false =>
        have h0 : 0 < D.length := by
          match D, hbl with
          | [], hbl => simp [Cd.blanks] at hbl
          | _ :: _, _ => simp
        have hix0 := run_byte_at h0 (v := 0) rfl w
        have hix1 := run_byte_at (i := k - 1) (v := (k : Int) - 1) (S := D) (by omega) (by omega) w
        have g0 : D.getD 0 0 = D[0] := by simp [List.getD, List.getElem?_eq_getElem h0]
        have g1 : D.getD (k - 1) 0 = D[k - 1] := by simp [List.getD, List.getElem?_eq_getElem (show k - 1 < D.length by omega)]
        rw [hDk, g0, g1] at hcl
        by_cases f0 : D[0] = 32
        · have t0 : ((D[0].toNat : Int) == 32) = true := byte_eq (n := 32) (by omega) f0
          by_cases f1 : D[k - 1] = 32
          · have t1 : ((D[k - 1].toNat : Int) == 32) = true := byte_eq (n := 32) (by omega) f1
            have h2 : 2 ≤ k := by
              rcases Nat.lt_or_ge k 2 with h | h
              · exfalso
                match D, h0, hDk, hbl, f0 with
                | [x], _, _, hbl, f0 => simp at f0; subst f0; simp [Cd.blanks] at hbl
                | _ :: _ :: _, _, hDk, _, _ => simp at hDk; omega
              · exact h
            have hmid := run_mid_at (S := D) (i := 1) (j := k - 1) (v := 1) (u := (k : Int) - 1) (by omega) (by omega) rfl (by omega) w
            rw [if_pos ⟨hbl, f0, f1⟩] at hcl
            clear hC g0 g1 f0 f1
            subst hcl
            go_wp2
            go_ret
            exact ⟨rfl, rfl⟩
          · have t1 : ((D[k - 1].toNat : Int) == 32) = false := byte_ne (n := 32) (by omega) f1
            rw [if_neg (fun h => f1 h.2.2)] at hcl
            clear hC g0 g1 f0 f1
            subst hcl
            go_wp2
            go_ret
            exact ⟨rfl, rfl⟩
        · have t0 : ((D[0].toNat : Int) == 32) = false := byte_ne (n := 32) (by omega) f0
          rw [if_neg (fun h => f0 h.2.1)] at hcl
          clear hC g0 g1 f0
          subst hcl
          go_wp2
          go_ret
          exact ⟨rfl, rfl⟩

/-- what Span answers -/
def spanV : Option (List UInt8 × Nat) → Value
  | none => .tuple #[.string ⟨#[]⟩, .int .i64 0, .bool false]
  | some (t, e) => .tuple #[.string (bs t), .int .i64 (e : Int), .bool true]
theorem opens_no {l : List UInt8} {at_ : Int} (h : at_ < 0 ∨ (l.length : Int) ≤ at_ ∨ (∃ h : at_.toNat < l.length, l[at_.toNat] ≠ 96) ∨ (0 < at_ ∧ ∃ h : at_.toNat - 1 < l.length, l[at_.toNat - 1] = 96)) : Cd.opens l at_ = false := by
  unfold Cd.opens
  refine decide_eq_false ?_
  rintro ⟨h1, h2, h3, h4⟩
  rcases h with h | h | ⟨hl, h⟩ | ⟨h0, hl, h⟩
  · omega
  · omega
  · exact h (by simpa [List.getD, List.getElem?_eq_getElem hl] using h3)
  · rcases h4 with h4 | h4
    · omega
    · exact h4 (by simpa [List.getD, List.getElem?_eq_getElem hl] using h)
theorem opens_yes {l : List UInt8} {k : Nat} (h : k < l.length) (h1 : l[k] = 96) (h2 : k = 0 ∨ ∃ h : k - 1 < l.length, l[k - 1] ≠ 96) : Cd.opens l (k : Int) = true := by
  unfold Cd.opens
  refine decide_eq_true ⟨by omega, h, by simpa [List.getD, List.getElem?_eq_getElem h] using h1, ?_⟩
  rcases h2 with h2 | ⟨hl, h2⟩
  · exact .inl h2
  · exact .inr (by simpa [List.getD, List.getElem?_eq_getElem hl] using h2)

set_option maxHeartbeats 4000000 in
set_option maxRecDepth 100000 in
/-- behind the beginning's own test -/
theorem rspan_on (l : List UInt8) (k : Nat) (hk : k < l.length) (hs : l.length ≤ 140737488351232) (h96 : l[k] = 96) (hb : k = 0 ∨ ∃ h : k - 1 < l.length, l[k - 1] ≠ 96) (w : World) :
    Calls Tryz.prog 24 #[.string (bs l), .int .i64 (k : Int)] w fun e w' => e = .returned (spanV (Cd.span l (k : Int))) ∧ w = w' := by
  have hsz := bs_size l
  have hix := run_byte hk w
  have ht : ((l[k].toNat : Int) == 96) = true := byte_eq (n := 96) (by omega) h96
  have ht2 : ((l[k].toNat : Int) != 96) = false := by simp only [bne, ht]; rfl
  have ho := opens_yes hk h96 hb
  have hn1 := Cd.opens_run ho
  have hsp := Cd.span_on (n := Fn.run 96 (l.drop k)) ho rfl
  rw [show ((k : Int)).toNat = k from by omega] at hn1 hsp
  obtain ⟨R, hR⟩ : ∃ R, R = Cd.span l (k : Int) := ⟨_, rfl⟩
  rw [← hR] at hsp ⊢
  clear ho h96 hR
  have hnl := Fn.run_le 96 (l.drop k)
  rw [List.length_drop] at hnl
  have q := fun i hi w => rrun_any l i 96 w (by omega) hi
  have q1 := q k (by omega)
  obtain ⟨n, hn⟩ : ∃ n, n = Fn.run 96 (l.drop k) := ⟨_, rfl⟩
  rw [← hn] at hn1 hnl q1 hsp
  clear hn
  replace q := Lib.hid q
  replace hsp := Lib.hid hsp
  have hb' : (k ≤ 0 ∧ Hid True) ∨ (0 < k ∧ ∃ h : k - 1 < l.length, ((l[k - 1].toNat : Int) == 96) = false) := by
    rcases hb with hb | ⟨h, hb⟩
    · exact .inl ⟨by omega, Lib.hid trivial⟩
    · rcases Nat.eq_zero_or_pos k with h0 | h0
      · exact .inl ⟨by omega, Lib.hid trivial⟩
      · exact .inr ⟨h0, h, byte_ne (n := 96) (by omega) hb⟩
  clear hb
  rcases hb' with ⟨hk0, _⟩ | ⟨hk0, hk1, hb1⟩
  · go_enter Tryz.func24, Tryz.ntmps24
    go_wp2_with fail
    refine (q1 _).mono ?_
    rintro e w1 ⟨rfl, rfl⟩
    go_wp2_with fail
    go_loop [8] (fun u => ∃ i : Nat, k + n ≤ i ∧ i ≤ l.length ∧ u = .int .i64 i ∧ Hid (Cd.find l n (k + n) = Cd.find l n i)) (fun u => l.length - (intOf u).toNat)
    case atStart => exact ⟨k + n, Nat.le_refl _, by omega, by go_num, Lib.hid rfl⟩
    case round =>
      obtain ⟨i, hi1, hi2, rfl, hf⟩ := hrel
      by_cases hil : i < l.length
      · have q2 := q.out i (by omega)
        have hyes := Cd.find_yes (n := n) hil
        have hno := Cd.find_no (n := n) hil
        have hml := Fn.run_le 96 (l.drop i)
        rw [List.length_drop] at hml
        obtain ⟨m, hm⟩ : ∃ m, m = Fn.run 96 (l.drop i) := ⟨_, rfl⟩
        rw [← hm] at q2 hyes hno hml
        clear hm
        have hmx : (if (m : Int) < 1 then (1 : Int) else (m : Int)) = ((max m 1 : Nat) : Int) := by split <;> omega
        by_cases hmn : m = n
        · subst hmn
          have hres : R = some (Cd.clean (mid l (k + m) i), i + m) := by rw [hsp.out, hf.out, hyes rfl]; rfl
          subst hres
          clear hsp hf hyes hno
          have hcut := run_mid_at (S := l) (i := k + m) (j := i) (v := (k : Int) + m) (u := (i : Int)) hi1 (by omega) (by omega) rfl w
          have hml2 : (mid l (k + m) i).length ≤ 140737488351232 := by rw [mid_len (by omega)]; omega
          have q3 := rclean_any (mid l (k + m) i) w hml2
          go_wp2_with fail
          refine (q2 _).mono ?_
          rintro e w1 ⟨rfl, rfl⟩
          go_wp2_with fail
          refine q3.mono ?_
          rintro e w1 ⟨rfl, rfl⟩
          go_wp2
          go_ret3
          exact ⟨rfl, rfl⟩
        · have hne : ((m : Int) == (n : Int)) = false := by simp; omega
          have hf2 : Hid (Cd.find l n (k + n) = Cd.find l n (i + max m 1)) := Lib.hid (by rw [hf.out, hno hmn])
          have hlm : i + max m 1 ≤ l.length := by omega
          clear hyes hno hmn
          go_wp2_with fail
          refine (q2 _).mono ?_
          rintro e w1 ⟨rfl, rfl⟩
          go_wp2_with fail
          go_round
          case rel => exact ⟨i + max m 1, by omega, hlm, by go_num, hf2⟩
          case measure => simp [intOf]; omega
      · have hres : R = none := by rw [hsp.out, hf.out, Cd.find_end (by omega)]; rfl
        subst hres
        clear hsp hf
        go_wp2
        go_ret3
        exact ⟨rfl, rfl⟩
  · have hix1 := run_byte_at (i := k - 1) (v := (k : Int) - 1) (S := l) hk1 (by omega) w
    go_enter Tryz.func24, Tryz.ntmps24
    go_wp2_with fail
    refine (q1 _).mono ?_
    rintro e w1 ⟨rfl, rfl⟩
    go_wp2_with fail
    go_loop [8] (fun u => ∃ i : Nat, k + n ≤ i ∧ i ≤ l.length ∧ u = .int .i64 i ∧ Hid (Cd.find l n (k + n) = Cd.find l n i)) (fun u => l.length - (intOf u).toNat)
    case atStart => exact ⟨k + n, Nat.le_refl _, by omega, by go_num, Lib.hid rfl⟩
    case round =>
      obtain ⟨i, hi1, hi2, rfl, hf⟩ := hrel
      by_cases hil : i < l.length
      · have q2 := q.out i (by omega)
        have hyes := Cd.find_yes (n := n) hil
        have hno := Cd.find_no (n := n) hil
        have hml := Fn.run_le 96 (l.drop i)
        rw [List.length_drop] at hml
        obtain ⟨m, hm⟩ : ∃ m, m = Fn.run 96 (l.drop i) := ⟨_, rfl⟩
        rw [← hm] at q2 hyes hno hml
        clear hm
        have hmx : (if (m : Int) < 1 then (1 : Int) else (m : Int)) = ((max m 1 : Nat) : Int) := by split <;> omega
        by_cases hmn : m = n
        · subst hmn
          have hres : R = some (Cd.clean (mid l (k + m) i), i + m) := by rw [hsp.out, hf.out, hyes rfl]; rfl
          subst hres
          clear hsp hf hyes hno
          have hcut := run_mid_at (S := l) (i := k + m) (j := i) (v := (k : Int) + m) (u := (i : Int)) hi1 (by omega) (by omega) rfl w
          have hml2 : (mid l (k + m) i).length ≤ 140737488351232 := by rw [mid_len (by omega)]; omega
          have q3 := rclean_any (mid l (k + m) i) w hml2
          go_wp2_with fail
          refine (q2 _).mono ?_
          rintro e w1 ⟨rfl, rfl⟩
          go_wp2_with fail
          refine q3.mono ?_
          rintro e w1 ⟨rfl, rfl⟩
          go_wp2
          go_ret3
          exact ⟨rfl, rfl⟩
        · have hne : ((m : Int) == (n : Int)) = false := by simp; omega
          have hf2 : Hid (Cd.find l n (k + n) = Cd.find l n (i + max m 1)) := Lib.hid (by rw [hf.out, hno hmn])
          have hlm : i + max m 1 ≤ l.length := by omega
          clear hyes hno hmn
          go_wp2_with fail
          refine (q2 _).mono ?_
          rintro e w1 ⟨rfl, rfl⟩
          go_wp2_with fail
          go_round
          case rel => exact ⟨i + max m 1, by omega, hlm, by go_num, hf2⟩
          case measure => simp [intOf]; omega
      · have hres : R = none := by rw [hsp.out, hf.out, Cd.find_end (by omega)]; rfl
        subst hres
        clear hsp hf
        go_wp2
        go_ret3
        exact ⟨rfl, rfl⟩

set_option maxHeartbeats 4000000 in
set_option maxRecDepth 100000 in
theorem rspan_off (l : List UInt8) (at_ : Int) (hs : l.length ≤ 140737488351232) (ho : at_ < 0 ∨ (0 ≤ at_ ∧ (l.length : Int) ≤ at_) ∨ (0 ≤ at_ ∧ ∃ h : at_.toNat < l.length, ((l[at_.toNat].toNat : Int) == 96) = false) ∨
      (0 < at_ ∧ ∃ h : at_.toNat < l.length, ((l[at_.toNat].toNat : Int) == 96) = true ∧ ((l[at_.toNat - 1].toNat : Int) == 96) = true)) (w : World) :
    Calls Tryz.prog 24 #[.string (bs l), .int .i64 at_] w fun e w' => e = .returned (spanV none) ∧ w = w' := by
  have hsz := bs_size l
  rcases ho with h | ⟨h0, h⟩ | ⟨h0, hl, h⟩ | ⟨h0, hl, h1, h2⟩
  · go_enter Tryz.func24, Tryz.ntmps24
    go_wp2
    go_ret3
    exact ⟨rfl, rfl⟩
  · go_enter Tryz.func24, Tryz.ntmps24
    go_wp2
    go_ret3
    exact ⟨rfl, rfl⟩
  · have hix := run_byte_at (i := at_.toNat) (v := at_) (S := l) hl (by omega) w
    have h' : ((l[at_.toNat].toNat : Int) != 96) = true := by simp only [bne, h]; rfl
    go_enter Tryz.func24, Tryz.ntmps24
    go_wp2
    go_ret3
    exact ⟨rfl, rfl⟩
  · have hix := run_byte_at (i := at_.toNat) (v := at_) (S := l) hl (by omega) w
    have hix1 := run_byte_at (i := at_.toNat - 1) (v := at_ - 1) (S := l) (by omega) (by omega) w
    have h' : ((l[at_.toNat].toNat : Int) != 96) = false := by simp only [bne, h1]; rfl
    go_enter Tryz.func24, Tryz.ntmps24
    go_wp2
    go_ret3
    exact ⟨rfl, rfl⟩

theorem rspan_any (l : List UInt8) (at_ : Int) (hs : l.length ≤ 140737488351232) (w : World) :
    Calls Tryz.prog 24 #[.string (bs l), .int .i64 at_] w fun e w' => e = .returned (spanV (Cd.span l at_)) ∧ w = w' := by
  by_cases h0 : at_ < 0
  · rw [Cd.span_off (opens_no (.inl h0))]
    exact rspan_off l at_ hs (.inl h0) w
  · by_cases h1 : (l.length : Int) ≤ at_
    · rw [Cd.span_off (opens_no (.inr (.inl h1)))]
      exact rspan_off l at_ hs (.inr (.inl ⟨by omega, h1⟩)) w
    · have hl : at_.toNat < l.length := by omega
      by_cases h2 : l[at_.toNat] = 96
      · by_cases h3 : 0 < at_ ∧ l[at_.toNat - 1] = 96
        · rw [Cd.span_off (opens_no (.inr (.inr (.inr ⟨h3.1, by omega, h3.2⟩))))]
          exact rspan_off l at_ hs (.inr (.inr (.inr ⟨h3.1, hl, byte_eq (n := 96) (by omega) h2, byte_eq (n := 96) (by omega) h3.2⟩))) w
        · obtain ⟨k, rfl⟩ : ∃ k : Nat, at_ = (k : Int) := ⟨at_.toNat, by omega⟩
          refine rspan_on l k hl hs h2 ?_ w
          rcases Nat.eq_zero_or_pos k with hk | hk
          · exact .inl hk
          · exact .inr ⟨by omega, fun h => h3 ⟨by omega, h⟩⟩
      · rw [Cd.span_off (opens_no (.inr (.inr (.inl ⟨hl, h2⟩))))]
        exact rspan_off l at_ hs (.inr (.inr (.inl ⟨by omega, hl, byte_ne (n := 96) (by omega) h2⟩))) w
end Go.Proofs.YtkfhkfagmokjpaaGreatDoor

namespace Go.Proofs.YtkfhkfagmokjpaaGreatDoor.Lf
open Go.Proofs.YtkfhkfagmokjpaaGreatDoor.Cl (isGap strip)
open Go.Proofs.YtkfhkfagmokjpaaGreatDoor.Fn (cl rs run trim back emp)

end Go.Proofs.YtkfhkfagmokjpaaGreatDoor.Lf

namespace Go.Proofs.YtkfhkfagmokjpaaGreatDoor.Bk
open Go.Proofs.YtkfhkfagmokjpaaGreatDoor.Cl (strip)
open Go.Proofs.YtkfhkfagmokjpaaGreatDoor.Fn (cl rs emp trim)

end Go.Proofs.YtkfhkfagmokjpaaGreatDoor.Bk
