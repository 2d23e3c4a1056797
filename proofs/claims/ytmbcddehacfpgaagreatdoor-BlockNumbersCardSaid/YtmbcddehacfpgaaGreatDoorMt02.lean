/- Plain words for memory, of my own: a slice value whose cells read as a list ('Row'), bytes and texts as lists of bytes. No law is claimed here. Two rows of the call's own, appended to in turn: they lie apart. A struct in a new block: what a load and a store of it want to know, behind what has left it alone. Memory of a call's own, part by part: blocks of a struct and rows, each in a block of its own, by keys. No function of the program is spoken of here. Plain mathematics of columns: the blanks and tabs at a text's beginning, a text without its first columns, its width. No program is spoken of here. Plain mathematics of columns: a text with its tabs as blanks, a text stripped of some columns, and of some more. No program is spoken of here. Plain mathematics of fences: runs of a sign, the longest one, a text without the blanks and tabs around it, the line that begins a fence, the line that ends one. No program is spoken of here. Plain mathematics of single lines: headings, breaks, quotes, items. No program is spoken of here. Plain mathematics of blocks: a document's lines one by one, the nodes that come of them in their order, each with its parent's number. No program is spoken of here. Plain mathematics of lines: what ends a line, where the first line of a text lies, all of them. No program is spoken of here. Plain mathematics of blocks, as a row of open containers: each with its closed blocks as trees, the innermost first. No program is spoken of here. Bytes of a text, parts of a text, tests of bytes: what the machine's own operations give. No function of the program is spoken of here. Package cols and the document's own answer: one contract for each function that reads a text. Package runes: the kinds of runes, by the program and by the document's own answer: one contract each, for every number of 32 bits. Trees of nodes: plain mathematics. The row of open containers and the nodes with their parents: what the one and the other make of a document's lines is the same. Trees, and ways up in them. The row of open containers and the nodes with their parents: line by line they make the same. The row of open containers and the nodes with their parents: a document's lines, trees and places of fences. -/
import Derived.Test.YtmbcddehacfpgaaGreatDoorRows
import Derived.WalkKit
import Derived.WalkSpells
import Derived.WalkLawsBesides
import Derived.Deep.Draws
import Derived.Lib.Hide
import Derived.Lib.AppendStr
import Derived.Handy
import Derived.Maps.AppendAt
import Derived.Laws.ResultCell
namespace Go.Proofs.YtmbcddehacfpgaaGreatDoor
open Go.RowKit

/-- a byte as a value -/
def bv (b : UInt8) : Value := .int .u8 (b.toNat : Int)
/-- bytes as cells -/
def bcells (l : List UInt8) : List Value := l.map bv
/-- a text: its bytes -/
def bs (l : List UInt8) : ByteArray := ⟨l.toArray⟩
theorem bs_size (l : List UInt8) : (bs l).size = l.length := by simp [bs, ByteArray.size]

theorem bs_toList (l : List UInt8) : (bs l).toList = l := ByteArray.toList_mk l
theorem bs_eq {a b : List UInt8} (h : a = b) : ((bs a).toList == (bs b).toList) = true := by subst h; simp
theorem bs_ne {a b : List UInt8} (h : a ≠ b) : ((bs a).toList == (bs b).toList) = false := by rw [bs_toList, bs_toList]; simpa using h
theorem bs_append (a b : List UInt8) : bs a ++ bs b = bs (a ++ b) := by
  apply ByteArray.ext; simp [bs]
theorem bs_inj {a b : List UInt8} (h : bs a = bs b) : a = b := by rw [← bs_toList a, h, bs_toList]

/-- the slice value (A, n, ..) holds the cells xs, all of them in blocks below B -/
def Row (w : World) (B size : Nat) (A : Option Addr) (n : Nat) (xs : List Value) : Prop :=
  xs.length = n * size ∧ (0 < n → ∃ b o, A = some ⟨b, o, none⟩ ∧ b < B ∧ ∀ j u, xs[j]? = some u → w.cell? ⟨b, o + j, none⟩ = some u)

section
variable {w w' : World} {B B' size n : Nat} {A : Option Addr} {xs : List Value}
theorem Row.nil : Row w B size A 0 [] := ⟨by simp, fun h => absurd h (by omega)⟩
theorem Row.keep (h : Row w B size A n xs) (hk : ∀ p : Addr, p.block < B → w'.cell? p = w.cell? p) : Row w' B size A n xs :=
  ⟨h.1, fun hn => by
    obtain ⟨b, o, e, hb, hc⟩ := h.2 hn
    exact ⟨b, o, e, hb, fun j u hu => (hk _ hb).trans (hc j u hu)⟩⟩
theorem Row.more (h : Row w B size A n xs) (hB : B ≤ B') : Row w B' size A n xs :=
  ⟨h.1, fun hn => by
    obtain ⟨b, o, e, hb, hc⟩ := h.2 hn
    exact ⟨b, o, e, by omega, hc⟩⟩
theorem Row.below (h : Row w B size A n xs) (hb : Below B w w') : Row w' B size A n xs := h.keep fun _ hp => hb.cell hp
theorem Row.drewN (h : Row w B size A n xs) (k : Nat) : Row (w.drewN k) B size A n xs := h
theorem Row.drew (h : Row w B size A n xs) : Row w.drew B size A n xs := h
theorem Row.alloc (h : Row w B size A n xs) (hB : B ≤ w.heap.size) (o : Obj) : Row (w.alloc o) B size A n xs := h.keep fun p hp => World.cell?_alloc_lt w o p (by omega)
theorem Row.own {base : Nat} {e : TypeId} {c : Nat} (h : w.ownsRow base e size (.slice A n c) n xs) : Row w w.heap.size size A n xs := by
  refine ⟨h.1, fun hn => ?_⟩
  rcases h.2 with ⟨_, h0⟩ | ⟨g, cap, cur, hv, _, hg, _, _, _, htake⟩
  · omega
  · have hA : A = some ⟨g, 0, none⟩ := by injection hv
    refine ⟨g, 0, hA, (Array.getElem?_eq_some_iff.1 hg).1, fun j u hu => ?_⟩
    have hc := h.cells (g := g) (by rw [hA]; rfl) j u hu
    have : (⟨g, 0, none⟩ : Addr).add j = ⟨g, 0 + j, none⟩ := by unfold Addr.add; split <;> simp_all
    rwa [this] at hc
/-- one cell of a row of one-cell elements -/
theorem Row.at1 (h : Row w B 1 A n xs) {k : Nat} (hk : k < n) : ∃ b o, A = some ⟨b, o, none⟩ ∧ b < B ∧ ∀ j, (hj : j < n) → w.cell? ⟨b, o + j, none⟩ = some (xs[j]'(by have := h.1; omega)) := by
  obtain ⟨b, o, e, hb, hc⟩ := h.2 (by omega)
  refine ⟨b, o, e, hb, fun j hj => hc j _ ?_⟩
  exact List.getElem?_eq_getElem _
end

/-- what an owned value looks like -/
theorem own_shape {w : World} {base : Nat} {e : TypeId} {size n : Nat} {v : Value} {xs : List Value} (h : w.ownsRow base e size v n xs) : ∃ A c, v = .slice A n c ∧ n ≤ c := by
  rcases h.2 with ⟨rfl, rfl⟩ | ⟨g, cap, cur, rfl, _, _, hn, _⟩
  · exact ⟨none, 0, rfl, by omega⟩
  · exact ⟨_, cap, rfl, hn⟩


/-- an element type's row of the table: slices of type T have elements of type E, of so many cells and bytes -/
structure EI (P : Program) (T E : TypeId) (size bytes : Nat) : Prop where
  ht : P.underlying T = some (.slice E)
  info : ∃ i z, P.info? E = some i ∧ i.zero = some z ∧ i.size = size ∧ i.bytes = bytes ∧ z.cells.size = size
  pos : 0 < size

theorem EI.mk' {P : Program} {T E : TypeId} {z : Value} {size bytes : Nat} (ht : P.underlying T = some (.slice E))
    (h : (P.info? E).map (fun i => (i.zero, i.size, i.bytes)) = some (some z, size, bytes)) (hz : z.cells.size = size) (hp : 0 < size) : EI P T E size bytes := by
  obtain ⟨i, h1, h2, h3, h4⟩ := info_parts h
  exact ⟨ht, ⟨i, z, h1, h2, h3, h4, hz⟩, hp⟩

theorem own_below {w w1 : World} {base : Nat} {e : TypeId} {size n : Nat} {v : Value} {xs : List Value} (h : w.ownsRow base e size v n xs) (hb : Below w.heap.size w w1) : w1.ownsRow base e size v n xs := by
  refine ⟨h.1, ?_⟩
  rcases h.2 with hn | ⟨g, cap, cur, rfl, hbg, hgg, rest⟩
  · exact .inl hn
  · exact .inr ⟨g, cap, cur, rfl, hbg, (hb.block g (Array.getElem?_eq_some_iff.1 hgg).1).trans hgg, rest⟩

theorem below_grown {w w1 w2 : World} {base : Nat} {e : TypeId} {size n : Nat} {v : Value} {xs : List Value} {a : World} (h : Below base a w) (hown : w1.ownsRow base e size v n xs)
    (h1 : Below base w w1) (hg : w1.grownBy w2 v.ownBlock) (hbase : base ≤ w1.heap.size) : Below base a w2 :=
  (h.trans h1).grown hg hbase fun k hk => (hown.lt k hk).1

theorem cells_new (w0 : World) (cs : Array Value) (E : TypeId) {g : Nat} (hg : g = w0.heap.size) : ∀ j u, cs.toList[j]? = some u → (w0.alloc (.cells cs E)).cell? ((⟨g, 0, none⟩ : Addr).add j) = some u := by
  intro j u hu
  have : (⟨g, 0, none⟩ : Addr).add j = ⟨g, j, none⟩ := by unfold Addr.add; split <;> simp_all
  rw [this, World.cell?_alloc_at _ _ _ _ hg]
  simpa using hu

theorem grown_new {w0 w' : World} {o : Obj} {row : Option Nat} (h : (w0.alloc o).grownBy w' row) : w0.grownBy w' row :=
  ⟨h.os, h.tape, h.output, by have := h.size; simp at this; omega, fun i hi hne => (h.block i (by simp; omega) hne).trans (Below.heap_alloc w0 o i hi)⟩
theorem grown_cell {w0 w' : World} {row : Option Nat} (h : w0.grownBy w' row) {p : Addr} (hp : p.block < w0.heap.size) (hne : row ≠ some p.block) : w'.cell? p = w0.cell? p :=
  World.cell?_of_block (h.block p.block hp (fun e => hne e.symm))
/-- an owned row's block is older than the world in which it was owned -/
theorem own_ne {w : World} {base : Nat} {e : TypeId} {size n : Nat} {v : Value} {xs : List Value} (h : w.ownsRow base e size v n xs) {k : Nat} (hk : w.heap.size ≤ k) : v.ownBlock ≠ some k := fun he => by
  have := (h.lt k he).2; omega
theorem own_ne_lt {w : World} {base : Nat} {e : TypeId} {size n : Nat} {v : Value} {xs : List Value} (h : w.ownsRow base e size v n xs) {k : Nat} (hk : k < base) : v.ownBlock ≠ some k := fun he => by
  have := (h.lt k he).1; omega

/-- append of elements that were laid in a new block -/
theorem wpList_app_new {P : Program} {w0 : World} {ops : Array Oper} {rest : List Oper} {o : Oper} {a : Act} {Q : Exit → Act → World → Prop} (hgd : o.guard = none) (s x : Operand) {T : TypeId}
    (ho : o.op = .call { callee := .builtin .append, args := #[s, x], argTypes := #[T, T] })
    {E : TypeId} {size bytes : Nat} (hE : EI P T E size bytes) {base n : Nat} {v : Value} {xs : List Value} (hs : a.eval s = v) (hown : w0.ownsRow base E size v n xs)
    {g k c : Nat} {cs : Array Value} (hx : a.eval x = .slice (some ⟨g, 0, none⟩) k c) (hg : g = w0.heap.size) (hcs : cs.size = k * size) (h1 : ∀ u ∈ cs.toList, u.oneCell' = true)
    (h63 : n + k ≤ 1000000000000) (hbytes : bytes ≤ 100) (hbase : base ≤ w0.heap.size)
    (h : ∀ v' w', w'.ownsRow base E size v' (n + k) (xs ++ cs.toList) → Hid (w0.grownBy w' v.ownBlock) → Below base w0 w' → wpList P ops Q rest (a.put o.dst v') w') :
    wpList P ops Q (o :: rest) a (w0.alloc (.cells cs E)) := by
  obtain ⟨i, z, hi, hz, hs1, hs2, hs3⟩ := hE.info
  refine wpList_append_own _ hgd s x T ho base E i z size bytes hE.ht hi hz hs1 hs2 hs3 hE.pos v n xs hs (hown.alloc _) ⟨g, 0, none⟩ k c cs.toList hx (by simpa using hcs) (cells_new w0 cs E hg) h1
    (by unfold maxLen; omega) (by have := Nat.mul_le_mul h63 hbytes; omega) (by simp; omega) ?_
  intro v' w' hw hgr _
  exact h v' w' hw (grown_new hgr) (below_grown (Below.refl _ _) (hown.alloc _) ((Below.refl _ _).alloc hbase _) hgr (by simp; omega))

/-- the address of what is cut off a slice: one name for it, which the walk does not open -/
def cutA (size : Nat) (A : Option Addr) (c lo : Nat) : Option Addr := if c = lo then A else A.map (·.add (lo * size))

theorem run_cut {P : Program} {T : TypeId} (hT : P.underlying T = some (.slice (P.elem T))) (size : Nat) (hsz : ∀ w, (sizeOf (P.elem T)).run P w = .ok size w) (A : Option Addr) (n c lo hi : Nat) (h1 : lo ≤ hi) (h2 : hi ≤ c) (w : World) :
    (Instr.slice T (.slice A n c) (some (.int .i64 (lo : Int))) (some (.int .i64 (hi : Int))) none).run P w = .ok (.slice (cutA size A c lo) (hi - lo) (c - lo)) w := by
  rw [run_slice_lh w T A n c hT .i64 .i64 lo hi (by omega) (by omega) (by omega), hsz]
  simp [sliced, cutA, Result.andThen]

theorem Row.cut {w : World} {B size n : Nat} {A : Option Addr} {xs : List Value} (h : Row w B size A n xs) {c lo hi : Nat} (h1 : lo ≤ hi) (h2 : hi ≤ n) (h3 : n ≤ c) :
    Row w B size (cutA size A c lo) (hi - lo) ((xs.drop (lo * size)).take ((hi - lo) * size)) := by
  refine ⟨?_, fun hn => ?_⟩
  · have hl := h.1
    have h4 := Nat.mul_le_mul_right size h2
    rw [List.length_take, List.length_drop, hl, Nat.sub_mul]
    omega
  · obtain ⟨b, o, rfl, hb, hc⟩ := h.2 (by omega)
    refine ⟨b, o + lo * size, ?_, hb, fun j u hu => ?_⟩
    · unfold cutA
      rw [if_neg (by omega)]
      simp only [Option.map_some, Addr.add]
      split
      · rename_i h0; rw [h0]; rfl
      · rfl
    · have := hc (lo * size + j) u (by
        rw [List.getElem?_take] at hu
        split at hu
        · rwa [List.getElem?_drop] at hu
        · cases hu)
      rwa [← Nat.add_assoc] at this

/-- what lies from lo up to hi -/
def mid {α : Type} (l : List α) (lo hi : Nat) : List α := (l.drop lo).take (hi - lo)
theorem mid_len {α : Type} {l : List α} {lo hi : Nat} (h : hi ≤ l.length) : (mid l lo hi).length = hi - lo := by
  unfold mid; rw [List.length_take, List.length_drop]; omega
theorem Row.sub {w : World} {B n : Nat} {A : Option Addr} {l : List UInt8} (h : Row w B 1 A n (bcells l)) {c lo hi : Nat} (h1 : lo ≤ hi) (h2 : hi ≤ n) (h3 : n ≤ c) :
    Row w B 1 (cutA 1 A c lo) (hi - lo) (bcells (mid l lo hi)) := by
  have := h.cut h1 h2 h3
  simpa [bcells, mid, List.map_take, List.map_drop] using this

/-- bytes made a text -/
theorem run_text {P : Program} {w : World} {B n c : Nat} {A : Option Addr} {l : List UInt8} (h : Row w B 1 A n (bcells l)) (src e dst : TypeId) (hs : P.underlying src = some (.slice e)) (he : P.underlying e = some (.int .u8)) (hd : P.underlying dst = some .string) :
    (convert src dst (.slice A n c)).run P w = .ok (.string (bs l)) w := by
  have hn : l.length = n := by have := h.1; simpa [bcells] using this
  rcases A with _ | ad
  · have h0 : n = 0 := by
      rcases Nat.eq_zero_or_pos n with h0 | h0
      · exact h0
      · obtain ⟨b, o, e, _⟩ := h.2 h0; cases e
    subst h0
    have : l = [] := List.eq_nil_of_length_eq_zero hn
    subst this
    rw [run_convert_bytes_nil w src e hs he 0 c dst hd]
    rfl
  · have hstr : (strOfNums (l.map fun b => (b.toNat : Int))) = ⟨l.toArray⟩ := by
      have hid : ((fun n : Int => UInt8.ofNat n.toNat) ∘ fun b : UInt8 => (b.toNat : Int)) = id := by funext b; simp
      simp only [strOfNums, List.map_map, hid, List.map_id_fun, id]
    rcases Nat.eq_zero_or_pos n with h0 | h0
    · subst h0
      have : l = [] := List.eq_nil_of_length_eq_zero hn
      subst this
      obtain ⟨b, o, sp⟩ := ad
      rw [run_convert_bytes_string w src dst e _ 0 c hs he hd, run_bytesToString w _ 0 c [] (by simp [loadCells, loadCellsFrom])]
      rfl
    · obtain ⟨b, o, e, _, hc⟩ := h.2 h0
      cases e
      rw [run_convert_bytes_arg w src _ hs he b o n c (l.map fun b => (b.toNat : Int)) (by simpa using hn) (fun i hi => by
        have hil : i < l.length := by omega
        have := hc i _ (List.getElem?_eq_getElem (by simpa [bcells] using hil))
        rw [this]; simp [bcells, bv, List.getElem?_eq_getElem hil]) dst hd, hstr]
      rfl

/-- texts as cells -/
def scells (l : List (List UInt8)) : List Value := l.map fun s => .string (bs s)

theorem strCells_bs (l : List UInt8) : Lib.strCells (bs l) = bcells l := by simp [Lib.strCells, bcells, bv, bs]

/-- append of a text's bytes -/
theorem wpList_app_text {P : Program} {w : World} {ops : Array Oper} {rest : List Oper} {o : Oper} {a : Act} {Q : Exit → Act → World → Prop} (hgd : o.guard = none) (s x : Operand) {T U : TypeId}
    (ho : o.op = .call { callee := .builtin .append, args := #[s, x], argTypes := #[T, U] })
    {E : TypeId} (hE : EI P T E 1 1) (hEz : (P.info? E).map (fun i => i.zero) = some (some (.int .u8 0))) (hU : P.underlying U = some .string) {base n : Nat} {v : Value} {l : List UInt8} (hs : a.eval s = v) (hown : w.ownsRow base E 1 v n (bcells l))
    {t : List UInt8} (hx : a.eval x = .string (bs t)) (h63 : n + t.length ≤ 1000000000000) (hbase : base ≤ w.heap.size)
    (h : ∀ v' w', w'.ownsRow base E 1 v' (n + t.length) (bcells (l ++ t)) → Hid (w.grownBy w' v.ownBlock) → Below base w w' → wpList P ops Q rest (a.put o.dst v') w') :
    wpList P ops Q (o :: rest) a w := by
  obtain ⟨i, z, hi, hz, hs1, hs2, hs3⟩ := hE.info
  have hzz : i.zero = some (.int .u8 0) := by rw [hi] at hEz; simpa using hEz
  have hsz := bs_size t
  refine Lib.wpList_append_own_string w hgd s x T U ho base E i hE.ht hU hi hzz hs1 hs2 v n (bcells l) hs hown (bs t) hx (by rw [hsz]; unfold maxLen; omega) (by rw [hsz]; omega) hbase ?_
  intro v' w' hw hgr _
  rw [hsz, strCells_bs] at hw
  exact h v' w' (by simpa [bcells] using hw) hgr (below_grown (Below.refl _ _) hown (Below.refl _ _) hgr hbase)

theorem own_base {w : World} {b0 b1 : Nat} {e : TypeId} {size n : Nat} {v : Value} {xs : List Value} (h : w.ownsRow b1 e size v n xs) (hb : b0 ≤ b1) : w.ownsRow b0 e size v n xs := by
  refine ⟨h.1, ?_⟩
  rcases h.2 with hn | ⟨g, cap, cur, rfl, hbg, rest⟩
  · exact .inl hn
  · exact .inr ⟨g, cap, cur, rfl, Nat.le_trans hb hbg, rest⟩

theorem below_drewN {B : Nat} {a w : World} (h : Below B a w) (n : Nat) : Below B a (w.drewN n) := ⟨h.os, h.tape, h.output, h.size, h.block⟩

theorem ext_trans {w w1 w2 : World} (h : Below w.heap.size w w1) (k : Below w1.heap.size w1 w2) : Below w.heap.size w w2 := h.trans (k.mono h.size)
theorem Row.ext {w w' : World} {size n : Nat} {A : Option Addr} {xs : List Value} (h : Row w w.heap.size size A n xs) (hb : Below w.heap.size w w') : Row w' w'.heap.size size A n xs := (h.below hb).more hb.size

/-- a literal row of one-cell elements in a new block, marked or not -/
theorem Row.fresh (w : World) (E : TypeId) (C : Array Value) (m : Nat × Nat) {n : Nat} {xs : List Value} (hn : C.size = n) (hx : C.toList = xs) :
    Row (w.alloc (.cells C E m)) (w.alloc (.cells C E m)).heap.size 1 (some ⟨w.heap.size, 0, none⟩) n xs := by
  subst hn hx
  refine ⟨by simp, fun _ => ⟨w.heap.size, 0, rfl, by simp, fun j u hu => ?_⟩⟩
  rw [World.cell?_alloc_mark]
  simpa using hu
theorem ext_alloc (w : World) (o : Obj) : Below w.heap.size w (w.alloc o) := (Below.refl _ _).alloc (Nat.le_refl _) _

/-- a byte picked out of a literal text by some bits of another byte -/
theorem run_pick {P : Program} (t : TypeId) (ht : P.underlying t = some .string) (s : ByteArray) (b : UInt8) (j : Nat) (m : Int) (hm : m = ((2 ^ j - 1 : Nat) : Int)) (hj : j ≤ 8) (hs : 2 ^ j ≤ s.size) :
    ∃ x : UInt8, ∀ w, (Instr.index t (.string s) (.int .u8 (bits .and .u8 (b.toNat : Int) m))).run P w = .ok (.int .u8 (x.toNat : Int)) w := by
  subst hm
  have hp : 2 ^ j ≤ 256 := Nat.pow_le_pow_right (n := 2) (by omega) hj
  have hpos : 0 < 2 ^ j := Nat.two_pow_pos j
  have hb : b.toNat < 256 := b.toNat_lt
  have e : bits .and .u8 (b.toNat : Int) ((2 ^ j - 1 : Nat) : Int) = ((b.toNat % 2 ^ j : Nat) : Int) := by
    rw [u8_and_nat _ _ hb (by omega), Nat.and_two_pow_sub_one_eq_mod]
  have hlt : b.toNat % 2 ^ j < s.size := Nat.lt_of_lt_of_le (Nat.mod_lt _ hpos) hs
  refine ⟨s[b.toNat % 2 ^ j], fun w => ?_⟩
  rw [e, run_index_string w t s .u8 _ ht, dif_pos ⟨by omega, by omega⟩]
  rfl

theorem Row.dr {w : World} {size n : Nat} {A : Option Addr} {xs : List Value} (h : Row w w.heap.size size A n xs) : Row w.drew w.drew.heap.size size A n xs := h
theorem ext_drew (w : World) : Below w.heap.size w w.drew := (Below.refl _ _).drew

theorem run_app_row {P : Program} {w : World} {T ty : TypeId} {E : TypeId} {size bytes : Nat} (hE : EI P T E size bytes) {base n : Nat} {v : Value} {xs : List Value} (hown : w.ownsRow base E size v n xs)
    {B m c : Nat} {A : Option Addr} {news : List Value} (hr : Row w B size A m news) (h1 : ∀ u ∈ news, u.oneCell' = true) (h63 : n + m ≤ 1000000000000) (hbytes : bytes ≤ 100) (hbase : base ≤ w.heap.size) :
    ∃ v' w', (Builtin.append_ #[T, T] ty #[v, .slice A m c]).run P w = .ok v' w' ∧ w'.ownsRow base E size v' (n + m) (xs ++ news) ∧ w.grownBy w' v.ownBlock := by
  obtain ⟨i, z, hi, hz, hs1, hs2, hs3⟩ := hE.info
  rcases Nat.eq_zero_or_pos m with h0 | h0
  · subst h0
    have hn : news = [] := List.eq_nil_of_length_eq_zero (by simpa using hr.1)
    subst hn
    refine ⟨v, w, ?_, by simpa using hown, World.grownBy.refl w _⟩
    rcases A with _ | ad
    · rcases hown.2 with ⟨rfl, rfl⟩ | ⟨g, cap, cur, rfl, _, _, hnc, _⟩
      · simp [Builtin.append_, run_underlying hE.ht, sizeOf, typeInfo, hi, Builtin.lenOf, Builtin.firstCells]
      · simp [Builtin.append_, run_underlying hE.ht, sizeOf, typeInfo, hi, Builtin.lenOf, Builtin.firstCells, hnc, storeCells]
    · rcases hown.2 with ⟨rfl, rfl⟩ | ⟨g, cap, cur, rfl, _, _, hnc, _⟩
      · simp [Builtin.append_, run_underlying hE.ht, sizeOf, typeInfo, hi, Builtin.lenOf, Builtin.firstCells, loadCells, loadCellsFrom]
      · simp [Builtin.append_, run_underlying hE.ht, sizeOf, typeInfo, hi, Builtin.lenOf, Builtin.firstCells, loadCells, loadCellsFrom, hnc, storeCells]
  · obtain ⟨b, o, rfl, _, hc⟩ := hr.2 h0
    have hcell : ∀ j u, news[j]? = some u → w.cell? ((⟨b, o, none⟩ : Addr).add j) = some u := by
      intro j u hu
      have : (⟨b, o, none⟩ : Addr).add j = ⟨b, o + j, none⟩ := by unfold Addr.add; split <;> simp_all
      rw [this]; exact hc j u hu
    obtain ⟨v', w', h2, h3, h4, _⟩ := run_append_own (P := P) w base T ty E i z size bytes hE.ht hi hz hs1 hs2 hs3 hE.pos v n xs hown ⟨b, o, none⟩ m c news hr.1 hcell h1
      (by unfold maxLen; omega) (by have := Nat.mul_le_mul h63 hbytes; omega) hbase
    exact ⟨v', w', h2, h3, h4⟩

/-- append of a row, nil or not, at an operation -/
theorem wp_app_row {P : Program} {w : World} {o : Oper} {a : Act} {K : Act → World → Prop} {Q : Exit → Act → World → Prop} (s x : Operand) {T : TypeId}
    (ho : o.op = .call { callee := .builtin .append, args := #[s, x], argTypes := #[T, T] })
    {E : TypeId} {size bytes : Nat} (hE : EI P T E size bytes) {base n : Nat} {v : Value} {xs : List Value} (hs : a.eval s = v) (hown : w.ownsRow base E size v n xs)
    {B m c : Nat} {A : Option Addr} {news : List Value} (hx : a.eval x = .slice A m c) (hr : Row w B size A m news) (h1 : ∀ u ∈ news, u.oneCell' = true) (h63 : n + m ≤ 1000000000000) (hbytes : bytes ≤ 100) (hbase : base ≤ w.heap.size)
    (h : ∀ v' w', w'.ownsRow base E size v' (n + m) (xs ++ news) → Hid (w.grownBy w' v.ownBlock) → Below base w w' → K (a.put o.dst v') w') : o.wp P a w K Q := by
  obtain ⟨v', w', hrun, h2, h3⟩ := run_app_row (ty := o.type) (c := c) hE hown hr h1 h63 hbytes hbase
  unfold Oper.wp execOp
  simp only [ho, resolve, invoke, builtin, Sem.run_bind, Sem.run_pure, Result.andThen_ok, List.map_toArray, List.map_cons, List.map_nil, hs, hx, hrun]
  exact h v' w' h2 h3 (below_grown (Below.refl _ _) hown (Below.refl _ _) h3 hbase)

theorem scells_one (l : List (List UInt8)) : ∀ u ∈ scells l, u.oneCell' = true := by
  intro u hu; simp only [scells, List.mem_map] at hu; obtain ⟨_, _, rfl⟩ := hu; rfl
theorem bcells_one (l : List UInt8) : ∀ u ∈ bcells l, u.oneCell' = true := by
  intro u hu; simp only [bcells, List.mem_map] at hu; obtain ⟨_, _, rfl⟩ := hu; rfl

theorem ints_one (l : List Int) : ∀ u ∈ l.map (Value.int .i64), u.oneCell' = true := by
  intro u hu; simp only [List.mem_map] at hu; obtain ⟨_, _, rfl⟩ := hu; rfl

theorem own_max {w : World} {base : Nat} {e : TypeId} {size n : Nat} {v : Value} {xs : List Value} (h : w.ownsRow base e size v n xs) : n ≤ 9223372036854775807 := by
  rcases h.2 with ⟨_, h0⟩ | ⟨g, cap, cur, _, _, _, hn, hm, _⟩
  · omega
  · unfold maxLen at hm; omega
end Go.Proofs.YtmbcddehacfpgaaGreatDoor

namespace Go.Proofs.YtmbcddehacfpgaaGreatDoor
open Go.RowKit

/-- no block of the one is the other's -/
def Apart (a b : Value) : Prop := ∀ g, a.ownBlock = some g → b.ownBlock ≠ some g
theorem Apart.symm {a b : Value} (h : Apart a b) : Apart b a := fun g hb ha => h g ha hb
theorem Apart.nil (b : Value) : Apart (.slice none 0 0) b := fun g h => by simp [Value.ownBlock] at h
/-- where an appended row lies: where it lay, or in a block from B on -/
def At (B : Nat) (v v' : Value) : Prop := ∀ g, v'.ownBlock = some g → v.ownBlock = some g ∨ B ≤ g
theorem Apart.step {w : World} {base B : Nat} {e : TypeId} {size n : Nat} {a a' b : Value} {xs : List Value} (h : Apart a b) (hb : w.ownsRow base e size b n xs) (hat : At B a a') (hB : w.heap.size ≤ B) : Apart a' b := by
  intro g hg hbg
  rcases hat g hg with h1 | h1
  · exact h g h1 hbg
  · have := (hb.lt g hbg).2; omega
theorem own_apart {w w' : World} {base : Nat} {e : TypeId} {size n : Nat} {a b : Value} {xs : List Value} (hb : w.ownsRow base e size b n xs) (hg : w.grownBy w' a.ownBlock) (h : Apart a b) : w'.ownsRow base e size b n xs := by
  refine hb.kept hg ?_
  cases hbo : b.ownBlock with
  | none => exact .inl rfl
  | some g => exact .inr fun he => h g he.symm hbo

/-- append of elements that were laid in a new block; and where the row lies then -/
theorem wpList_app_two {P : Program} {w0 : World} {ops : Array Oper} {rest : List Oper} {o : Oper} {a : Act} {Q : Exit → Act → World → Prop} (hgd : o.guard = none) (s x : Operand) {T : TypeId}
    (ho : o.op = .call { callee := .builtin .append, args := #[s, x], argTypes := #[T, T] })
    {E : TypeId} {size bytes : Nat} (hE : EI P T E size bytes) {base n : Nat} {v : Value} {xs : List Value} (hs : a.eval s = v) (hown : w0.ownsRow base E size v n xs)
    {g k c : Nat} {cs : Array Value} (hx : a.eval x = .slice (some ⟨g, 0, none⟩) k c) (hg : g = w0.heap.size) (hcs : cs.size = k * size) (h1 : ∀ u ∈ cs.toList, u.oneCell' = true)
    (h63 : n + k ≤ 1000000000000) (hbytes : bytes ≤ 100) (hbase : base ≤ w0.heap.size)
    (h : ∀ v' w', w'.ownsRow base E size v' (n + k) (xs ++ cs.toList) → Hid (w0.grownBy w' v.ownBlock) → Below base w0 w' → Hid (At w0.heap.size v v') → wpList P ops Q rest (a.put o.dst v') w') :
    wpList P ops Q (o :: rest) a (w0.alloc (.cells cs E)) := by
  obtain ⟨i, z, hi, hz, hs1, hs2, hs3⟩ := hE.info
  refine wpList_append_own_at _ hgd s x T ho base E i z size bytes hE.ht hi hz hs1 hs2 hs3 hE.pos v n xs hs (hown.alloc _) ⟨g, 0, none⟩ k c cs.toList hx (by simpa using hcs) (cells_new w0 cs E hg) h1
    (by unfold maxLen; omega) (by have := Nat.mul_le_mul h63 hbytes; omega) (by simp; omega) ?_
  intro v' w' hw hgr _ hat
  refine h v' w' hw (grown_new hgr) (below_grown (Below.refl _ _) (hown.alloc _) ((Below.refl _ _).alloc hbase _) hgr (by simp; omega)) ?_
  intro q hq
  rcases hat with e | e
  · rw [e] at hq; exact .inl hq
  · rw [e] at hq; simp at hq; exact .inr (by omega)
end Go.Proofs.YtmbcddehacfpgaaGreatDoor

namespace Go.Proofs.YtmbcddehacfpgaaGreatDoor
open Go.RowKit

/-- a new block, behind what has left it alone -/
theorem blk {w w1 : World} {o : Obj} (hb : Below (w.alloc o).heap.size (w.alloc o) w1) : w1.heap[w.heap.size]? = some o :=
  (hb.block _ (by simp)).trans (heap_alloc_new w o)
theorem blk_cell {w1 : World} {g : Nat} {cs : Array Value} {t : TypeId} {fr : Nat × Nat} (h : w1.heap[g]? = some (.cells cs t fr)) (j : Nat) : w1.cell? ⟨g, j, none⟩ = cs[j]? := by
  simp [World.cell?, h]
theorem blk_free {w1 : World} {g : Nat} {cs : Array Value} {t : TypeId} (h : w1.heap[g]? = some (.cells cs t (0, 0))) (j : Nat) : w1.frozen? ⟨g, j, none⟩ = false := by
  simp [World.frozen?, h]
/-- what a store into a fresh fence wants to know -/
theorem blk_open {w w1 : World} {a b c d : Value} {t : TypeId} (hb : Below (w.alloc (.cells #[a, b, c, d] t)).heap.size (w.alloc (.cells #[a, b, c, d] t)) w1) :
    w1.cell? ⟨w.heap.size, 0, none⟩ = some a ∧ w1.cell? ⟨w.heap.size, 1, none⟩ = some b ∧ w1.cell? ⟨w.heap.size, 2, none⟩ = some c ∧ w1.cell? ⟨w.heap.size, 3, none⟩ = some d ∧
    ∀ j, w1.frozen? ⟨w.heap.size, j, none⟩ = false := by
  have h := blk hb
  exact ⟨blk_cell h 0, blk_cell h 1, blk_cell h 2, blk_cell h 3, blk_free h⟩

theorem blk_done {w w1 : World} {o : Obj} (hb : Below (w.alloc o).heap.size (w.alloc o) w1) (a b c d : Value) :
    Below w.heap.size w ((((w1.setCell ⟨w.heap.size, 0, none⟩ a).setCell ⟨w.heap.size, 1, none⟩ b).setCell ⟨w.heap.size, 2, none⟩ c).setCell ⟨w.heap.size, 3, none⟩ d) :=
  (((((ext_alloc w o).trans (hb.mono (by simp))).setCell (Nat.le_refl _) _).setCell (Nat.le_refl _) _).setCell (Nat.le_refl _) _).setCell (Nat.le_refl _) _

theorem keep {w w1 : World} {g : Nat} {o : Obj} (h : w.heap[g]? = some o) (hb : Below w.heap.size w w1) : w1.heap[g]? = some o ∧ g < w1.heap.size := by
  have hg : g < w.heap.size := (Array.getElem?_eq_some_iff.1 h).1
  have h1 := hb.block g hg
  have hs := hb.size
  exact ⟨h1.trans h, by omega⟩
theorem four {w1 : World} {g : Nat} {a b c d : Value} {t : TypeId} {fr : Nat × Nat} (h : w1.heap[g]? = some (.cells #[a, b, c, d] t fr)) :
    w1.cell? ⟨g, 0, none⟩ = some a ∧ w1.cell? ⟨g, 1, none⟩ = some b ∧ w1.cell? ⟨g, 2, none⟩ = some c ∧ w1.cell? ⟨g, 3, none⟩ = some d :=
  ⟨blk_cell h 0, blk_cell h 1, blk_cell h 2, blk_cell h 3⟩
/-- three results, the first a struct in a variable -/
theorem results_cell_tmp2 {fn : Func} {p u v : Tmp} {ty : TypeId} (h : fn.results = #[.cell p ty, .tmp u, .tmp v]) (tmps : Array Value) (P : Program) (w : World) :
    (results fn tmps).run P w =
      ((asAddr (tmps.getD p undef)).run P w).andThen fun a w₁ => ((loadVar ty a).run P w₁).andThen fun x w₂ => .ok (.tuple #[x, tmps.getD u undef, tmps.getD v undef]) w₂ := by
  simp only [results, h]
  simp [Sem.run_bind, Result.andThen]
theorem blk_two (w : World) (o p : Obj) : ((w.alloc o).alloc p).heap[w.heap.size + 1]? = some p := by
  have := heap_alloc_new (w.alloc o) p
  rwa [show (w.alloc o).heap.size = w.heap.size + 1 from by simp] at this
theorem blk_one (w : World) (o p : Obj) : ((w.alloc o).alloc p).heap[w.heap.size]? = some o := (keep (heap_alloc_new w o) (ext_alloc _ _)).1
theorem three {w1 : World} {g : Nat} {a b c : Value} {t : TypeId} {fr : Nat × Nat} (h : w1.heap[g]? = some (.cells #[a, b, c] t fr)) :
    w1.cell? ⟨g, 0, none⟩ = some a ∧ w1.cell? ⟨g, 1, none⟩ = some b ∧ w1.cell? ⟨g, 2, none⟩ = some c :=
  ⟨blk_cell h 0, blk_cell h 1, blk_cell h 2⟩
theorem set_three {w : World} {g k : Nat} (h : k ≠ g) (a b c : Value) : (((w.setCell ⟨g, 0, none⟩ a).setCell ⟨g, 1, none⟩ b).setCell ⟨g, 2, none⟩ c).heap[k]? = w.heap[k]? := by
  rw [Below.heap_setCell _ _ _ _ h, Below.heap_setCell _ _ _ _ h, Below.heap_setCell _ _ _ _ h]
theorem below_three {B g : Nat} {w w1 : World} (h : Below B w w1) (hg : B ≤ g) (a b c : Value) : Below B w (((w1.setCell ⟨g, 0, none⟩ a).setCell ⟨g, 1, none⟩ b).setCell ⟨g, 2, none⟩ c) :=
  ((h.setCell hg _).setCell hg _).setCell hg _
end Go.Proofs.YtmbcddehacfpgaaGreatDoor

namespace Go.Proofs.YtmbcddehacfpgaaGreatDoor
open Go.RowKit

/-- a struct's block, or a row -/
inductive Part
  | blk (g : Nat) (cs : Array Value) (t : TypeId)
  | row (e : TypeId) (size : Nat) (v : Value) (n : Nat) (xs : List Value)
def Part.holds (w : World) (B : Nat) : Part → Prop
  | .blk g cs t => B ≤ g ∧ w.heap[g]? = some (.cells cs t (0, 0))
  | .row e size v n xs => w.ownsRow B e size v n xs
def Part.block : Part → Option Nat
  | .blk g _ _ => some g
  | .row _ _ v _ _ => v.ownBlock
/-- all parts lie, each in a block of its own -/
structure Hp {K : Type} (w : World) (B : Nat) (m : K → Option Part) : Prop where
  holds : ∀ k a, m k = some a → a.holds w B
  apart : ∀ k k' a a' g, m k = some a → m k' = some a' → a.block = some g → a'.block = some g → k = k'

theorem Part.lt {w : World} {B : Nat} {a : Part} (h : a.holds w B) {g : Nat} (hg : a.block = some g) : B ≤ g ∧ g < w.heap.size := by
  cases a with
  | blk g' cs t =>
    simp only [Part.block, Option.some.injEq] at hg
    subst hg
    exact ⟨h.1, (Array.getElem?_eq_some_iff.1 h.2).1⟩
  | row e size v n xs => exact World.ownsRow.lt (show w.ownsRow B e size v n xs from h) g hg
theorem Part.kept {w w' : World} {B : Nat} {a : Part} (h : a.holds w B) {row : Option Nat} (hg : w.grownBy w' row) (hne : a.block = none ∨ a.block ≠ row) : a.holds w' B := by
  cases a with
  | blk g cs t =>
    refine ⟨h.1, ?_⟩
    rw [hg.block g (Array.getElem?_eq_some_iff.1 h.2).1 (by rcases hne with h | h; · cases h
                                                            · exact h)]
    exact h.2
  | row e size v n xs => exact World.ownsRow.kept (show w.ownsRow B e size v n xs from h) hg hne
theorem grown_ext {w w' : World} (hb : Below w.heap.size w w') (row : Option Nat) : w.grownBy w' row := ⟨hb.os, hb.tape, hb.output, hb.size, fun k hk _ => hb.block k hk⟩
theorem grown_set (w : World) (a : Addr) (v : Value) : w.grownBy (w.setCell a v) (some a.block) := by
  have hb : Below 0 w (w.setCell a v) := (Below.refl 0 w).setCell (Nat.zero_le _) v
  exact ⟨hb.os, hb.tape, hb.output, hb.size, fun k _ hne => Below.heap_setCell _ _ _ _ (fun e => hne (by rw [e]))⟩

section
variable {K : Type} {w w' : World} {B : Nat} {m : K → Option Part}
theorem Hp.ext (h : Hp w B m) (hb : Below w.heap.size w w') : Hp w' B m := by
  refine ⟨fun k a ha => ?_, h.apart⟩
  have := h.holds k a ha
  cases a with
  | blk g cs t => exact ⟨this.1, (hb.block g (Array.getElem?_eq_some_iff.1 this.2).1).trans this.2⟩
  | row e size v n xs => exact own_below (show w.ownsRow B e size v n xs from this) hb
/-- one part is another one: it lies where it lay, or in a new block -/
theorem Hp.put (h : Hp w B m) {m' : K → Option Part} {k : K} {a a' : Part} (hk : m k = some a) (hg : w.grownBy w' a.block) (ha : a'.holds w' B)
    (hat : ∀ g, a'.block = some g → a.block = some g ∨ w.heap.size ≤ g) (hm : ∀ j, j ≠ k → m' j = m j) (hk' : m' k = some a') : Hp w' B m' := by
  refine ⟨fun j b hb => ?_, fun i j b c g hi hj hbi hbj => ?_⟩
  · by_cases hjk : j = k
    · subst hjk; rw [hk'] at hb; cases hb; exact ha
    · rw [hm j hjk] at hb
      refine Part.kept (h.holds j b hb) hg ?_
      cases hbo : b.block with
      | none => exact .inl rfl
      | some g => exact .inr fun he => hjk (h.apart j k b a g hb hk hbo he.symm)
  · by_cases hik : i = k
    · by_cases hjk : j = k
      · rw [hik, hjk]
      · subst hik
        rw [hk'] at hi; cases hi
        rw [hm j hjk] at hj
        rcases hat g hbi with h1 | h1
        · exact h.apart i j a c g hk hj h1 hbj
        · exact absurd (Part.lt (h.holds j c hj) hbj).2 (by omega)
    · by_cases hjk : j = k
      · subst hjk
        rw [hk'] at hj; cases hj
        rw [hm i hik] at hi
        rcases hat g hbj with h1 | h1
        · exact h.apart i j b a g hi hk hbi h1
        · exact absurd (Part.lt (h.holds i b hi) hbi).2 (by omega)
      · rw [hm i hik] at hi; rw [hm j hjk] at hj
        exact h.apart i j b c g hi hj hbi hbj
/-- one part more, in a new block -/
theorem Hp.more (h : Hp w B m) {m' : K → Option Part} {k : K} {a' : Part} (hk : m k = none) (hb : Below w.heap.size w w') (ha : a'.holds w' B)
    (hat : ∀ g, a'.block = some g → w.heap.size ≤ g) (hm : ∀ j, j ≠ k → m' j = m j) (hk' : m' k = some a') : Hp w' B m' := by
  have h' := h.ext hb
  refine ⟨fun j b hb => ?_, fun i j b c g hi hj hbi hbj => ?_⟩
  · by_cases hjk : j = k
    · subst hjk; rw [hk'] at hb; cases hb; exact ha
    · rw [hm j hjk] at hb; exact h'.holds j b hb
  · by_cases hik : i = k
    · by_cases hjk : j = k
      · rw [hik, hjk]
      · subst hik
        rw [hk'] at hi; cases hi
        rw [hm j hjk] at hj
        exact absurd (Part.lt (h.holds j c hj) hbj).2 (by have := hat g hbi; omega)
    · by_cases hjk : j = k
      · subst hjk
        rw [hk'] at hj; cases hj
        rw [hm i hik] at hi
        exact absurd (Part.lt (h.holds i b hi) hbi).2 (by have := hat g hbj; omega)
      · rw [hm i hik] at hi; rw [hm j hjk] at hj
        exact h.apart i j b c g hi hj hbi hbj
/-- a store into a struct -/
theorem Hp.store (h : Hp w B m) {m' : K → Option Part} {k : K} {g j : Nat} {cs : Array Value} {t : TypeId} {v : Value} (hk : m k = some (.blk g cs t))
    (hm : ∀ j, j ≠ k → m' j = m j) (hk' : m' k = some (.blk g (cs.setIfInBounds j v) t)) : Hp (w.setCell ⟨g, j, none⟩ v) B m' := by
  have hh : Part.holds w B (.blk g cs t) := h.holds k _ hk
  exact h.put (a' := .blk g (cs.setIfInBounds j v) t) hk (grown_set w ⟨g, j, none⟩ v) ⟨hh.1, heap_setCell_same w g j cs t v hh.2⟩ (fun _ h => .inl h) hm hk'
theorem Hp.same (h : Hp w B m) {m' : K → Option Part} (hm : ∀ k, m' k = m k) : Hp w B m' := by
  rw [show m' = m from funext hm]; exact h
theorem Hp.base (h : Hp w B m) {k : K} {g : Nat} {cs : Array Value} {t : TypeId} (hk : m k = some (.blk g cs t)) : B ≤ g ∧ g < w.heap.size ∧ w.heap[g]? = some (.cells cs t (0, 0)) := by
  have hh : Part.holds w B (.blk g cs t) := h.holds k _ hk
  exact ⟨hh.1, (Array.getElem?_eq_some_iff.1 hh.2).1, hh.2⟩
theorem Hp.own (h : Hp w B m) {k : K} {e : TypeId} {size n : Nat} {v : Value} {xs : List Value} (hk : m k = some (.row e size v n xs)) : w.ownsRow B e size v n xs := h.holds k _ hk
end

/-- one part in another one's place -/
def upd {K : Type} [DecidableEq K] (m : K → Option Part) (k : K) (a : Part) : K → Option Part := fun j => if j = k then some a else m j
section
variable {K : Type} [DecidableEq K] {w w' : World} {B : Nat} {m : K → Option Part}
theorem upd_same (m : K → Option Part) (k : K) (a : Part) : upd m k a k = some a := if_pos rfl
theorem upd_other (m : K → Option Part) {k j : K} (a : Part) (h : j ≠ k) : upd m k a j = m j := if_neg h
theorem Hp.uput (h : Hp w B m) {k : K} {a : Part} (a' : Part) (hk : m k = some a) (hg : w.grownBy w' a.block) (ha : a'.holds w' B)
    (hat : ∀ g, a'.block = some g → a.block = some g ∨ w.heap.size ≤ g) : Hp w' B (upd m k a') :=
  h.put hk hg ha hat (fun _ hj => upd_other m a' hj) (upd_same m k a')
theorem Hp.umore (h : Hp w B m) {k : K} (a' : Part) (hk : m k = none) (hb : Below w.heap.size w w') (ha : a'.holds w' B)
    (hat : ∀ g, a'.block = some g → w.heap.size ≤ g) : Hp w' B (upd m k a') :=
  h.more hk hb ha hat (fun _ hj => upd_other m a' hj) (upd_same m k a')
theorem Hp.ustore (h : Hp w B m) {k : K} {g : Nat} {cs : Array Value} {t : TypeId} (j : Nat) (v : Value) (hk : m k = some (.blk g cs t)) :
    Hp (w.setCell ⟨g, j, none⟩ v) B (upd m k (.blk g (cs.setIfInBounds j v) t)) :=
  h.store hk (fun _ hj => upd_other m _ hj) (upd_same m k _)
end
theorem ext_grown {w w' : World} {g : Nat} (h : w.grownBy w' (some g)) (hg : w.heap.size ≤ g) : Below w.heap.size w w' :=
  ⟨h.os, h.tape, h.output, h.size, fun k hk => h.block k hk (fun e => by cases e; omega)⟩
theorem Row.take {w : World} {B size n k : Nat} {A : Option Addr} {xs : List Value} (h : Row w B size A n xs) (hk : k ≤ n) : Row w B size A k (xs.take (k * size)) := by
  refine ⟨?_, fun hp => ?_⟩
  · rw [List.length_take, h.1]
    exact Nat.min_eq_left (Nat.mul_le_mul_right size hk)
  · obtain ⟨b, o, hA, hb, hc⟩ := h.2 (by omega)
    refine ⟨b, o, hA, hb, fun j u hj => hc j u ?_⟩
    rw [List.getElem?_take] at hj
    split at hj
    · exact hj
    · cases hj

/-- a row in a new block -/
theorem Row.freshN (w : World) (E : TypeId) (C : Array Value) {size n : Nat} {xs : List Value} (hn : C.size = n * size) (hx : C.toList = xs) :
    Row (w.alloc (.cells C E)) (w.alloc (.cells C E)).heap.size size (some ⟨w.heap.size, 0, none⟩) n xs := by
  subst hx
  refine ⟨by simpa using hn, fun _ => ⟨w.heap.size, 0, rfl, by simp, fun j u hu => ?_⟩⟩
  rw [blk_cell (heap_alloc_new w _)]
  simpa using hu
/-- append of a row, nil or not; and where it lies then -/
theorem run_app_row_at {P : Program} {w : World} {T ty : TypeId} {E : TypeId} {size bytes : Nat} (hE : EI P T E size bytes) {base n : Nat} {v : Value} {xs : List Value} (hown : w.ownsRow base E size v n xs)
    {B m c : Nat} {A : Option Addr} {news : List Value} (hr : Row w B size A m news) (h1 : ∀ u ∈ news, u.oneCell' = true) (h63 : n + m ≤ 1000000000000) (hbytes : bytes ≤ 100) (hbase : base ≤ w.heap.size) :
    ∃ v' w', (Builtin.append_ #[T, T] ty #[v, .slice A m c]).run P w = .ok v' w' ∧ w'.ownsRow base E size v' (n + m) (xs ++ news) ∧ w.grownBy w' v.ownBlock ∧ At w.heap.size v v' := by
  obtain ⟨i, z, hi, hz, hs1, hs2, hs3⟩ := hE.info
  rcases Nat.eq_zero_or_pos m with h0 | h0
  · subst h0
    have hn : news = [] := List.eq_nil_of_length_eq_zero (by simpa using hr.1)
    subst hn
    refine ⟨v, w, ?_, by simpa using hown, World.grownBy.refl w _, fun _ h => .inl h⟩
    rcases A with _ | ad
    · rcases hown.2 with ⟨rfl, rfl⟩ | ⟨g, cap, cur, rfl, _, _, hnc, _⟩
      · simp [Builtin.append_, run_underlying hE.ht, sizeOf, typeInfo, hi, Builtin.lenOf, Builtin.firstCells]
      · simp [Builtin.append_, run_underlying hE.ht, sizeOf, typeInfo, hi, Builtin.lenOf, Builtin.firstCells, hnc, storeCells]
    · rcases hown.2 with ⟨rfl, rfl⟩ | ⟨g, cap, cur, rfl, _, _, hnc, _⟩
      · simp [Builtin.append_, run_underlying hE.ht, sizeOf, typeInfo, hi, Builtin.lenOf, Builtin.firstCells, loadCells, loadCellsFrom]
      · simp [Builtin.append_, run_underlying hE.ht, sizeOf, typeInfo, hi, Builtin.lenOf, Builtin.firstCells, loadCells, loadCellsFrom, hnc, storeCells]
  · obtain ⟨b, o, rfl, _, hc⟩ := hr.2 h0
    have hcell : ∀ j u, news[j]? = some u → w.cell? ((⟨b, o, none⟩ : Addr).add j) = some u := by
      intro j u hu
      have : (⟨b, o, none⟩ : Addr).add j = ⟨b, o + j, none⟩ := by unfold Addr.add; split <;> simp_all
      rw [this]; exact hc j u hu
    obtain ⟨v', w', h2, h3, h4, _, h5⟩ := run_append_own_at (P := P) w base T ty E i z size bytes hE.ht hi hz hs1 hs2 hs3 hE.pos v n xs hown ⟨b, o, none⟩ m c news hr.1 hcell h1
      (by unfold maxLen; omega) (by have := Nat.mul_le_mul h63 hbytes; omega) hbase
    refine ⟨v', w', h2, h3, h4, fun q hq => ?_⟩
    rcases h5 with e | e
    · rw [e] at hq; exact .inl hq
    · rw [e] at hq; simp at hq; exact .inr (by omega)

theorem wp_app_row_at {P : Program} {w : World} {o : Oper} {a : Act} {K : Act → World → Prop} {Q : Exit → Act → World → Prop} (s x : Operand) {T : TypeId}
    (ho : o.op = .call { callee := .builtin .append, args := #[s, x], argTypes := #[T, T] })
    {E : TypeId} {size bytes : Nat} (hE : EI P T E size bytes) {base n : Nat} {v : Value} {xs : List Value} (hs : a.eval s = v) (hown : w.ownsRow base E size v n xs)
    {B m c : Nat} {A : Option Addr} {news : List Value} (hx : a.eval x = .slice A m c) (hr : Row w B size A m news) (h1 : ∀ u ∈ news, u.oneCell' = true) (h63 : n + m ≤ 1000000000000) (hbytes : bytes ≤ 100) (hbase : base ≤ w.heap.size)
    (h : ∀ v' w', w'.ownsRow base E size v' (n + m) (xs ++ news) → Hid (w.grownBy w' v.ownBlock) → Below base w w' → Hid (At w.heap.size v v') → K (a.put o.dst v') w') : o.wp P a w K Q := by
  obtain ⟨v', w', hrun, h2, h3, h4⟩ := run_app_row_at (ty := o.type) (c := c) hE hown hr h1 h63 hbytes hbase
  unfold Oper.wp execOp
  simp only [ho, resolve, invoke, builtin, Sem.run_bind, Sem.run_pure, Result.andThen_ok, List.map_toArray, List.map_cons, List.map_nil, hs, hx, hrun]
  exact h v' w' h2 h3 (below_grown (Below.refl _ _) hown (Below.refl _ _) h3 hbase) h4
theorem wpList_app_row_at {P : Program} {w : World} {ops : Array Oper} {rest : List Oper} {o : Oper} {a : Act} {Q : Exit → Act → World → Prop} (hgd : o.guard = none) (s x : Operand) {T : TypeId}
    (ho : o.op = .call { callee := .builtin .append, args := #[s, x], argTypes := #[T, T] })
    {E : TypeId} {size bytes : Nat} (hE : EI P T E size bytes) {base n : Nat} {v : Value} {xs : List Value} (hs : a.eval s = v) (hown : w.ownsRow base E size v n xs)
    {B m c : Nat} {A : Option Addr} {news : List Value} (hx : a.eval x = .slice A m c) (hr : Row w B size A m news) (h1 : ∀ u ∈ news, u.oneCell' = true) (h63 : n + m ≤ 1000000000000) (hbytes : bytes ≤ 100) (hbase : base ≤ w.heap.size)
    (h : ∀ v' w', w'.ownsRow base E size v' (n + m) (xs ++ news) → Hid (w.grownBy w' v.ownBlock) → Below base w w' → Hid (At w.heap.size v v') → wpList P ops Q rest (a.put o.dst v') w') :
    wpList P ops Q (o :: rest) a w := by
  refine wpList_plain hgd fun K hK => ?_
  exact wp_app_row_at s x ho hE hs hown hx hr h1 h63 hbytes hbase (fun v' w' h2 h3 h4 h5 => hK _ _ (h v' w' h2 h3 h4 h5))
end Go.Proofs.YtmbcddehacfpgaaGreatDoor

namespace Go.Proofs.YtmbcddehacfpgaaGreatDoor.Cl

def isGap (b : UInt8) : Bool := b == 32 || b == 9
/-- the column behind b, which begins at column c -/
def step (c : Nat) (b : UInt8) : Nat := if b = 9 then c - c % 4 + 4 else c + 1
theorem step_tab (c : Nat) : step c 9 = c - c % 4 + 4 := by simp [step]
theorem step_one {b : UInt8} (c : Nat) (h : b ≠ 9) : step c b = c + 1 := by simp [step, h]
theorem step_le (c : Nat) (b : UInt8) : c < step c b ∧ step c b ≤ c + 4 := by
  unfold step; split
  · have : c % 4 < 4 := Nat.mod_lt _ (by omega)
    omega
  · omega

/-- the blanks and tabs from column c on until n columns are reached: the columns, the bytes -/
def lead (n : Int) : List UInt8 → Nat → Nat × Nat
  | [], c => (c, 0)
  | b :: r, c => if (c : Int) < n ∧ isGap b = true then ((lead n r (step c b)).1, (lead n r (step c b)).2 + 1) else (c, 0)

theorem lead_go {n : Int} {b : UInt8} {c : Nat} (r : List UInt8) (h : (c : Int) < n) (hg : isGap b = true) : lead n (b :: r) c = ((lead n r (step c b)).1, (lead n r (step c b)).2 + 1) := by
  rw [lead, if_pos ⟨h, hg⟩]
theorem lead_full {n : Int} {c : Nat} (l : List UInt8) (h : ¬ (c : Int) < n) : lead n l c = (c, 0) := by
  cases l with
  | nil => rfl
  | cons b r => rw [lead, if_neg (fun k => h k.1)]
theorem lead_word {n : Int} {b : UInt8} {c : Nat} (r : List UInt8) (h : isGap b = false) : lead n (b :: r) c = (c, 0) := by
  rw [lead, if_neg (fun k => by rw [h] at k; exact absurd k.2 (by simp))]

theorem lead_le (n : Int) (l : List UInt8) (c : Nat) : (lead n l c).2 ≤ l.length ∧ c + (lead n l c).2 ≤ (lead n l c).1 ∧ (lead n l c).1 ≤ c + 4 * (lead n l c).2 := by
  induction l generalizing c with
  | nil => simp [lead]
  | cons b r ih =>
    rw [lead]
    have h1 := ih (step c b)
    have h2 := step_le c b
    split
    · simp only [List.length_cons]; omega
    · simp

/-- what stands at place k, begun at column c -/
def fin (n : Int) (l : List UInt8) (k c : Nat) : Nat × Nat := ((lead n (l.drop k) c).1, k + (lead n (l.drop k) c).2)
theorem fin_zero (n : Int) (l : List UInt8) : fin n l 0 0 = lead n l 0 := by simp [fin]
theorem fin_step {n : Int} {l : List UInt8} {k c : Nat} (hk : k < l.length) (hc : (c : Int) < n) (hg : isGap l[k] = true) : fin n l (k + 1) (step c l[k]) = fin n l k c := by
  unfold fin; rw [List.drop_eq_getElem_cons hk, lead_go _ hc hg]; simp only [Prod.mk.injEq, true_and]; omega
theorem fin_full {n : Int} {k c : Nat} (l : List UInt8) (h : ¬ (c : Int) < n) : fin n l k c = (c, k) := by
  unfold fin; rw [lead_full _ h]; rfl
theorem fin_word {n : Int} {l : List UInt8} {k c : Nat} (hk : k < l.length) (hg : isGap l[k] = false) : fin n l k c = (c, k) := by
  unfold fin; rw [List.drop_eq_getElem_cons hk, lead_word _ hg]; rfl
theorem fin_end {n : Int} {l : List UInt8} {k c : Nat} (hk : ¬ k < l.length) : fin n l k c = (c, k) := by
  unfold fin; rw [List.drop_eq_nil_of_le (by omega)]; rfl

/-- without the first n columns -/
def strip (n : Int) (l : List UInt8) : List UInt8 := List.replicate ((lead n l 0).1 - n.toNat) 32 ++ l.drop (lead n l 0).2
theorem lead_neg {n : Int} (l : List UInt8) (h : n ≤ 0) : lead n l 0 = (0, 0) := lead_full l (by omega)
theorem strip_neg {n : Int} (l : List UInt8) (h : n ≤ 0) : strip n l = l := by
  unfold strip; rw [lead_neg l h]; simp
/-- how far past n a tab may lead -/
theorem lead_past (n : Int) (l : List UInt8) (c : Nat) (h : (c : Int) ≤ n + 3) : ((lead n l c).1 : Int) ≤ n + 3 := by
  induction l generalizing c with
  | nil => simpa [lead] using h
  | cons b r ih =>
    rw [lead]
    split
    · rename_i hc
      have h2 := step_le c b
      exact ih (step c b) (by have := hc.1; omega)
    · exact h
theorem strip_len (n : Int) (l : List UInt8) : (strip n l).length ≤ l.length + 3 := by
  by_cases h : n ≤ 0
  · rw [strip_neg l h]; omega
  · have h1 := lead_past n l 0 (by omega)
    unfold strip
    simp only [List.length_append, List.length_replicate, List.length_drop]
    omega

/-- all columns -/
def width : List UInt8 → Nat → Nat
  | [], c => c
  | b :: r, c => width r (step c b)
theorem width_at {l : List UInt8} {k c : Nat} (hk : k < l.length) : width (l.drop (k + 1)) (step c l[k]) = width (l.drop k) c := by
  rw [List.drop_eq_getElem_cons hk]; rfl
theorem width_end {l : List UInt8} {k c : Nat} (hk : ¬ k < l.length) : width (l.drop k) c = c := by
  rw [List.drop_eq_nil_of_le (by omega)]; rfl

/-- a number that no column reaches -/
def inf : Int := 9223372036854775807
end Go.Proofs.YtmbcddehacfpgaaGreatDoor.Cl

namespace Go.Proofs.YtmbcddehacfpgaaGreatDoor.Cl

/-- no column of so short a text reaches inf -/
def small (l : List UInt8) (c : Nat) : Prop := c + 4 * l.length < 9223372036854775807

theorem small_lt {l : List UInt8} {c : Nat} (h : small l c) : (c : Int) < inf := by unfold small at h; unfold inf; omega
theorem small_step {b : UInt8} {r : List UInt8} {c : Nat} (h : small (b :: r) c) : small r (step c b) := by
  have := step_le c b; unfold small at *; simp only [List.length_cons] at h; omega

/-- blanks in front -/
theorem lead_blanks {n : Int} (j : Nat) (r : List UInt8) (c : Nat) (h : (c : Int) + j ≤ n) : lead n (List.replicate j 32 ++ r) c = ((lead n r (c + j)).1, (lead n r (c + j)).2 + j) := by
  induction j generalizing c with
  | zero => simp
  | succ j ih =>
    rw [List.replicate_succ, List.cons_append, lead_go _ (by omega) (by rfl), step_one c (by decide), ih (c + 1) (by omega)]
    have : c + 1 + j = c + (j + 1) := by omega
    rw [this]; simp only [Prod.mk.injEq, true_and]; omega
theorem width_blanks (j : Nat) (r : List UInt8) (c : Nat) : width (List.replicate j 32 ++ r) c = width r (c + j) := by
  induction j generalizing c with
  | zero => simp
  | succ j ih =>
    rw [List.replicate_succ, List.cons_append, width, step_one c (by decide), ih (c + 1)]
    congr 1; omega
theorem width_ge (l : List UInt8) (c : Nat) : c ≤ width l c := by
  induction l generalizing c with
  | nil => exact Nat.le_refl _
  | cons b r ih => have h1 := ih (step c b); have h2 := step_le c b; rw [width]; omega

/-- tabs as blanks up to the next stop -/
def fl : List UInt8 → Nat → List UInt8
  | [], _ => []
  | b :: r, c => if b = 9 then List.replicate (4 - c % 4) 32 ++ fl r (c + (4 - c % 4)) else b :: fl r (c + 1)
theorem fl_tab (r : List UInt8) (c : Nat) : fl (9 :: r) c = List.replicate (4 - c % 4) 32 ++ fl r (c + (4 - c % 4)) := by simp [fl]
theorem fl_one {b : UInt8} (r : List UInt8) (c : Nat) (h : b ≠ 9) : fl (b :: r) c = b :: fl r (c + 1) := by simp [fl, h]
theorem step_tab' (c : Nat) : step c 9 = c + (4 - c % 4) := by
  rw [step_tab]; have : c % 4 < 4 := Nat.mod_lt _ (by omega); have := Nat.mod_le c 4; omega

theorem fl_len (l : List UInt8) (c : Nat) : (fl l c).length ≤ 4 * l.length := by
  induction l generalizing c with
  | nil => simp [fl]
  | cons b r ih =>
    by_cases h : b = 9
    · subst h
      rw [fl_tab]
      have := ih (c + (4 - c % 4))
      simp only [List.length_append, List.length_replicate, List.length_cons]; omega
    · rw [fl_one _ _ h]
      have := ih (c + 1)
      simp only [List.length_cons]; omega

theorem fl_all (l : List UInt8) (c : Nat) (hs : small l c) :
    (lead inf (fl l c) c).1 = (lead inf l c).1 ∧ (lead inf (fl l c) c).1 = c + (lead inf (fl l c) c).2 ∧ width l c = c + (fl l c).length ∧ width (fl l c) c = c + (fl l c).length ∧
      ((lead inf l c).2 = l.length ↔ (lead inf (fl l c) c).2 = (fl l c).length) := by
  induction l generalizing c with
  | nil => simp [fl, lead, width]
  | cons b r ih =>
    have hlt := small_lt hs
    have hi := ih (step c b) (small_step hs)
    by_cases h : b = 9
    · subst h
      rw [step_tab'] at hi
      obtain ⟨j, hj⟩ : ∃ j, 4 - c % 4 = j := ⟨_, rfl⟩
      rw [hj] at hi
      have hc4 : c % 4 < 4 := Nat.mod_lt _ (by omega)
      have hji : (c : Int) + j ≤ inf := by unfold small at hs; unfold inf; simp only [List.length_cons] at hs; omega
      rw [fl_tab, hj, lead_blanks j _ c hji, width_blanks, lead_go _ hlt (by rfl), width, step_tab', hj]
      simp only [List.length_append, List.length_replicate, List.length_cons]
      obtain ⟨h1, h2, h3, h4, h5⟩ := hi
      refine ⟨h1, by omega, by omega, by omega, ?_⟩
      constructor
      · intro h; have := h5.1 (by omega); omega
      · intro h; have := h5.2 (by omega); omega
    · rw [step_one c h] at hi
      rw [fl_one _ _ h, width, width, step_one c h]
      obtain ⟨h1, h2, h3, h4, h5⟩ := hi
      cases hg : isGap b with
      | true =>
        rw [lead_go _ hlt hg, lead_go _ hlt hg, step_one c h]
        simp only [List.length_cons]
        refine ⟨h1, by omega, by omega, by omega, ?_⟩
        constructor
        · intro h; have := h5.1 (by omega); omega
        · intro h; have := h5.2 (by omega); omega
      | false =>
        rw [lead_word _ hg, lead_word _ hg]
        simp only [List.length_cons]
        refine ⟨trivial, by omega, by omega, by omega, by constructor <;> (intro h; omega)⟩

/-- the blanks and tabs at a text's beginning -/
def gaps : List UInt8 → Nat
  | [] => 0
  | b :: r => if isGap b then gaps r + 1 else 0
theorem gaps_go {b : UInt8} (r : List UInt8) (h : isGap b = true) : gaps (b :: r) = gaps r + 1 := by simp [gaps, h]
theorem gaps_word {b : UInt8} (r : List UInt8) (h : isGap b = false) : gaps (b :: r) = 0 := by simp [gaps, h]
theorem gaps_le (l : List UInt8) : gaps l ≤ l.length := by
  induction l with
  | nil => simp [gaps]
  | cons b r ih => simp only [gaps, List.length_cons]; split <;> omega
theorem gaps_drop (l : List UInt8) (k : Nat) (h : k ≤ gaps l) : gaps (l.drop k) = gaps l - k := by
  induction l generalizing k with
  | nil => simp [gaps]
  | cons b r ih =>
    cases k with
    | zero => simp
    | succ k =>
      cases hg : isGap b with
      | true => rw [gaps_go _ hg] at h ⊢; rw [List.drop_succ_cons, ih k (by omega)]; omega
      | false => rw [gaps_word _ hg] at h; omega
theorem lead_gaps (n : Int) (l : List UInt8) (c : Nat) : (lead n l c).2 ≤ gaps l := by
  induction l generalizing c with
  | nil => simp [lead]
  | cons b r ih =>
    rw [lead]
    split
    · rename_i h; have := ih (step c b); rw [gaps_go _ h.2]; simp only; omega
    · simp
theorem lead_inf (l : List UInt8) (c : Nat) (hs : small l c) : (lead inf l c).2 = gaps l := by
  induction l generalizing c with
  | nil => rfl
  | cons b r ih =>
    cases hg : isGap b with
    | true => rw [lead_go _ (small_lt hs) hg, gaps_go _ hg]; simp only; rw [ih _ (small_step hs)]
    | false => rw [lead_word _ hg, gaps_word _ hg]
theorem lead_none (n : Int) (r : List UInt8) (c : Nat) (h : gaps r = 0) : lead n r c = (c, 0) := by
  cases r with
  | nil => rfl
  | cons b r =>
    cases hg : isGap b with
    | true => rw [gaps_go _ hg] at h; omega
    | false => exact lead_word _ hg
/-- where all is taken, more columns take no more -/
theorem lead_all {n m : Int} (l : List UInt8) (c : Nat) (hnm : n ≤ m) (h : (lead n l c).2 = gaps l) : lead m l c = lead n l c := by
  induction l generalizing c with
  | nil => rfl
  | cons b r ih =>
    cases hg : isGap b with
    | true =>
      by_cases hc : (c : Int) < n
      · rw [lead_go _ hc hg, gaps_go _ hg] at h
        rw [lead_go _ hc hg, lead_go _ (by omega) hg, ih _ (by simp only at h; omega)]
      · rw [lead_full _ hc, gaps_go _ hg] at h; simp only at h; omega
    | false => rw [lead_word _ hg, lead_word _ hg]
/-- where not all is taken, the columns are reached -/
theorem lead_some (n : Int) (l : List UInt8) (c : Nat) (h : (lead n l c).2 < gaps l) : n ≤ (lead n l c).1 := by
  induction l generalizing c with
  | nil => simp [gaps] at h
  | cons b r ih =>
    cases hg : isGap b with
    | true =>
      by_cases hc : (c : Int) < n
      · rw [lead_go _ hc hg, gaps_go _ hg] at h
        rw [lead_go _ hc hg]
        exact ih _ (by simp only at h; omega)
      · rw [lead_full _ hc]; simp only; omega
    | false => rw [gaps_word _ hg] at h; omega
theorem lead_more {n m : Int} (l : List UInt8) (c : Nat) (hnm : n ≤ m) : (lead n l c).2 ≤ (lead m l c).2 ∧ (lead m l c).1 ≤ (lead n l c).1 + 4 * ((lead m l c).2 - (lead n l c).2) := by
  induction l generalizing c with
  | nil => simp [lead]
  | cons b r ih =>
    by_cases hc : (c : Int) < n
    · cases hg : isGap b with
      | true =>
        have := ih (step c b)
        rw [lead_go _ hc hg, lead_go _ (by omega) hg]; simp only; omega
      | false => rw [lead_word _ hg, lead_word _ hg]; simp
    · have := lead_le m (b :: r) c
      rw [lead_full _ hc]; simp only; omega

/-- blanks ahead of a text that begins with none, stripped -/
theorem strip_flat (m a : Nat) (R : List UInt8) (h : gaps R = 0) : strip (m : Int) (List.replicate a 32 ++ R) = List.replicate (a - m) 32 ++ R := by
  by_cases hm : a ≤ m
  · unfold strip
    rw [lead_blanks a R 0 (by omega), lead_none _ R _ h]
    simp [Nat.sub_eq_zero_of_le hm]
  · have he : List.replicate a (32 : UInt8) ++ R = List.replicate m 32 ++ (List.replicate (a - m) 32 ++ R) := by
      rw [← List.append_assoc, List.replicate_append_replicate]; congr 2; omega
    unfold strip
    rw [he, lead_blanks m _ 0 (by omega), lead_full _ (by omega)]
    simp
theorem lead_flat (a : Nat) (R : List UInt8) (h : gaps R = 0) (ha : a ≤ 1000) : lead inf (List.replicate a 32 ++ R) 0 = (a, a) := by
  rw [lead_blanks a R 0 (by unfold inf; omega), lead_none _ R _ h]; simp

/-- the rest behind the blanks and tabs -/
def rest (l : List UInt8) : List UInt8 := l.drop (gaps l)
theorem rest_gaps (l : List UInt8) : gaps (rest l) = 0 := by unfold rest; rw [gaps_drop l _ (Nat.le_refl _)]; omega

/-- what strip gives, and what stands at its beginning -/
theorem strip_lead (l : List UInt8) (N : Nat) (hl : l.length ≤ 60) :
    ∃ i, (lead inf (strip (N : Int) l) 0).2 = i ∧ i ≤ (strip (N : Int) l).length ∧ (strip (N : Int) l).drop i = rest l ∧ i = ((lead (N : Int) l 0).1 - N) + (gaps l - (lead (N : Int) l 0).2) := by
  have h1 := lead_past (N : Int) l 0 (by omega)
  have h2 := lead_gaps (N : Int) l 0
  have h3 := gaps_le l
  have h4 := lead_le (N : Int) l 0
  obtain ⟨C, K, hCK⟩ : ∃ C K, lead (N : Int) l 0 = (C, K) := ⟨_, _, rfl⟩
  rw [hCK] at h1 h2 h4 ⊢
  simp only at h1 h2 h4 ⊢
  have hst : strip (N : Int) l = List.replicate (C - N) 32 ++ l.drop K := by unfold strip; rw [hCK]; simp
  have hle : (lead inf (strip (N : Int) l) 0).2 = (C - N) + (gaps l - K) := by
    rw [hst, lead_blanks _ _ 0 (by unfold inf; omega)]
    simp only
    rw [lead_inf _ _ (by unfold small; rw [List.length_drop]; omega), gaps_drop l K h2]; omega
  refine ⟨_, hle, ?_, ?_, rfl⟩
  · rw [hst, List.length_append, List.length_replicate, List.length_drop]; omega
  · rw [hst, List.drop_append, List.length_replicate, List.drop_eq_nil_of_le (by simp), List.nil_append, List.drop_drop]
    unfold rest; congr 1; omega

/-- nothing is left ahead of a text stripped of N columns just where it is stripped of all -/
theorem strip_done (l : List UInt8) (N : Nat) (hl : l.length ≤ 60) (hN : N ≤ 31) : ((lead inf (strip (N : Int) l) 0).1 = 0 ↔ strip 99 l = strip (N : Int) l) := by
  obtain ⟨i, hi, _, hdrop, hii⟩ := strip_lead l N hl
  have hle := lead_le inf (strip (N : Int) l) 0
  rw [hi] at hle
  have h1 := lead_past (N : Int) l 0 (by omega)
  have h2 := lead_gaps (N : Int) l 0
  have h3 := lead_past 99 l 0 (by omega)
  have h4 := lead_gaps 99 l 0
  have h5 := lead_some 99 l 0
  have h6 := lead_more (n := (N : Int)) (m := 99) l 0 (by omega)
  have h7 := lead_le 99 l 0
  have h8 := lead_le (N : Int) l 0
  constructor
  · intro h0
    have hi0 : i = 0 := by omega
    have hall : (lead (N : Int) l 0).2 = gaps l := by omega
    rw [hi0] at hdrop
    have e := lead_all (n := (N : Int)) (m := 99) l 0 (by omega) hall
    unfold strip
    rw [e]
    have c1 : (lead (N : Int) l 0).1 - ((N : Nat) : Int).toNat = 0 := by omega
    have c2 : (lead (N : Int) l 0).1 - (99 : Int).toNat = 0 := by omega
    rw [c1, c2]
  · intro he
    by_cases hd : (lead 99 l 0).2 = gaps l ∧ (lead 99 l 0).1 ≤ 99
    · have hw : strip 99 l = rest l := by
        unfold strip rest
        rw [hd.1, show (lead 99 l 0).1 - (99 : Int).toNat = 0 from by omega]; rfl
      rw [← he, hw, lead_none _ _ _ (rest_gaps l)]
    · exfalso
      have hlen := congrArg List.length he
      unfold strip at hlen
      simp only [List.length_append, List.length_replicate, List.length_drop] at hlen
      have : (99 : Int) ≤ (lead 99 l 0).1 := by
        by_cases hx : (lead 99 l 0).2 < gaps l
        · exact h5 hx
        · have : (lead 99 l 0).2 = gaps l := by omega
          omega
      omega
end Go.Proofs.YtmbcddehacfpgaaGreatDoor.Cl

namespace Go.Proofs.YtmbcddehacfpgaaGreatDoor.Fn
open Go.Proofs.YtmbcddehacfpgaaGreatDoor.Cl

/-- how many of c are at the beginning -/
def run (c : UInt8) : List UInt8 → Nat
  | [] => 0
  | b :: r => if b = c then run c r + 1 else 0
theorem run_go {c b : UInt8} (r : List UInt8) (h : b = c) : run c (b :: r) = run c r + 1 := by simp [run, h]
theorem run_stop {c b : UInt8} (r : List UInt8) (h : b ≠ c) : run c (b :: r) = 0 := by simp [run, h]
theorem run_le (c : UInt8) (l : List UInt8) : run c l ≤ l.length := by
  induction l with
  | nil => simp [run]
  | cons b r ih => simp only [run, List.length_cons]; split <;> omega
theorem run_at {c : UInt8} {l : List UInt8} {k : Nat} (hk : k < l.length) (h : l[k] = c) : run c (l.drop k) = run c (l.drop (k + 1)) + 1 := by
  rw [List.drop_eq_getElem_cons hk, run_go _ h]
theorem run_no {c : UInt8} {l : List UInt8} {k : Nat} (hk : k < l.length) (h : l[k] ≠ c) : run c (l.drop k) = 0 := by
  rw [List.drop_eq_getElem_cons hk, run_stop _ h]
theorem run_end {c : UInt8} {l : List UInt8} {k : Nat} (hk : ¬ k < l.length) : run c (l.drop k) = 0 := by
  rw [List.drop_eq_nil_of_le (by omega)]; rfl
theorem run_rep (c : UInt8) (n : Nat) (r : List UInt8) : run c (List.replicate n c ++ r) = n + run c r := by
  induction n with
  | zero => simp
  | succ n ih => rw [List.replicate_succ, List.cons_append, run_go _ rfl, ih]; omega
/-- how many stand from a place on -/
def runAt (c : UInt8) (l : List UInt8) (k : Nat) : Nat := run c (l.drop k)

/-- the longest run of the sign 96 -/
def lg : List UInt8 → Nat
  | [] => 0
  | b :: r => max (run 96 (b :: r)) (lg r)
theorem lg_cons (b : UInt8) (r : List UInt8) : lg (b :: r) = max (run 96 (b :: r)) (lg r) := rfl
theorem lg_le (l : List UInt8) : lg l ≤ l.length := by
  induction l with
  | nil => simp [lg]
  | cons b r ih => have := run_le 96 (b :: r); rw [lg_cons, List.length_cons] at *; omega
theorem run_lg (l : List UInt8) : run 96 l ≤ lg l := by
  cases l with
  | nil => simp [run]
  | cons b r => rw [lg_cons]; omega
theorem lg_drop (l : List UInt8) (k : Nat) : lg (l.drop k) ≤ lg l := by
  induction l generalizing k with
  | nil => simp
  | cons b r ih =>
    cases k with
    | zero => simp
    | succ k => have := ih k; rw [List.drop_succ_cons, lg_cons]; omega
theorem lg_skip (l : List UInt8) : lg l = max (run 96 l) (lg (l.drop (run 96 l + 1))) := by
  induction l with
  | nil => simp [lg, run]
  | cons b r ih =>
    rw [lg_cons]
    by_cases h : b = 96
    · rw [run_go _ h, List.drop_succ_cons, ih]; omega
    · rw [run_stop _ h]; simp
theorem lg_free (l : List UInt8) (k : Nat) (h : ∀ j, (hj : j < l.length) → j < k → l[j] ≠ 96) : lg l = lg (l.drop k) := by
  induction k generalizing l with
  | zero => simp
  | succ k ih =>
    cases l with
    | nil => simp
    | cons b r =>
      have h0 : b ≠ 96 := h 0 (by simp) (by omega)
      rw [lg_cons, run_stop _ h0, List.drop_succ_cons, ← ih r (fun j hj hk => by
        have := h (j + 1) (by simp; omega) (by omega)
        simpa using this)]
      omega

/-- the longest of some texts -/
def lgs : List (List UInt8) → Nat
  | [] => 0
  | s :: r => max (lg s) (lgs r)
theorem lgs_at {ls : List (List UInt8)} {k : Nat} (hk : k < ls.length) : lgs (ls.drop k) = max (lg ls[k]) (lgs (ls.drop (k + 1))) := by
  rw [List.drop_eq_getElem_cons hk]; rfl
theorem lgs_end {ls : List (List UInt8)} {k : Nat} (hk : ¬ k < ls.length) : lgs (ls.drop k) = 0 := by
  rw [List.drop_eq_nil_of_le (by omega)]; rfl
theorem lgs_mem {ls : List (List UInt8)} {s : List UInt8} (h : s ∈ ls) : lg s ≤ lgs ls := by
  induction ls with
  | nil => cases h
  | cons t r ih =>
    rcases List.mem_cons.1 h with rfl | h
    · simp only [lgs]; omega
    · have := ih h; simp only [lgs]; omega
theorem lgs_le {ls : List (List UInt8)} {n : Nat} (h : ∀ s ∈ ls, s.length ≤ n) : lgs ls ≤ n := by
  induction ls with
  | nil => simp [lgs]
  | cons t r ih =>
    have h1 := h t (by simp)
    have h2 := lg_le t
    have h3 := ih fun s hs => h s (by simp [hs])
    simp only [lgs]; omega
/-- how many signs a fence needs -/
def long (ls : List (List UInt8)) : Nat := max (lgs ls + 1) 3

/-- without the blanks and tabs ahead -/
def front : List UInt8 → List UInt8
  | [] => []
  | b :: r => if isGap b then front r else b :: r
theorem front_gap {b : UInt8} (r : List UInt8) (h : isGap b = true) : front (b :: r) = front r := by simp [front, h]
theorem front_word {b : UInt8} (r : List UInt8) (h : isGap b = false) : front (b :: r) = b :: r := by simp [front, h]
theorem front_len (l : List UInt8) : (front l).length ≤ l.length := by
  induction l with
  | nil => simp [front]
  | cons b r ih => simp only [front]; split <;> simp only [List.length_cons] <;> omega
/-- without those at the end -/
def back : List UInt8 → List UInt8
  | [] => []
  | b :: r => if back r = [] ∧ isGap b = true then [] else b :: back r
theorem back_gap {b : UInt8} {r : List UInt8} (h : back r = []) (hb : isGap b = true) : back (b :: r) = [] := by simp [back, h, hb]
theorem back_word {b : UInt8} (r : List UInt8) (hb : isGap b = false) : back (b :: r) = b :: back r := by simp [back, hb]
theorem back_more {b : UInt8} {r : List UInt8} (h : back r ≠ []) : back (b :: r) = b :: back r := by simp [back, h]
theorem back_len (l : List UInt8) : (back l).length ≤ l.length := by
  induction l with
  | nil => simp [back]
  | cons b r ih => simp only [back]; split <;> simp only [List.length_cons, List.length_nil] <;> omega
theorem back_snoc_gap (l : List UInt8) {x : UInt8} (h : isGap x = true) : back (l ++ [x]) = back l := by
  induction l with
  | nil => rw [List.nil_append, back_gap rfl h]; rfl
  | cons b r ih => rw [List.cons_append, back, back, ih]
theorem back_snoc_word (l : List UInt8) {x : UInt8} (h : isGap x = false) : back (l ++ [x]) = l ++ [x] := by
  induction l with
  | nil => rw [List.nil_append, back_word _ h]; rfl
  | cons b r ih => rw [List.cons_append, back_more (by rw [ih]; simp), ih]
/-- without those around -/
def trim (l : List UInt8) : List UInt8 := back (front l)
theorem trim_len (l : List UInt8) : (trim l).length ≤ l.length := Nat.le_trans (back_len _) (front_len _)
theorem front_back (l : List UInt8) : front (back l) = back (front l) := by
  induction l with
  | nil => rfl
  | cons b r ih =>
    cases hb : isGap b with
    | true =>
      rw [front_gap _ hb, ← ih]
      by_cases hr : back r = []
      · rw [back_gap hr hb, hr]
      · rw [back_more hr, front_gap _ hb]
    | false => rw [back_word _ hb, front_word _ hb, front_word _ hb, back_word _ hb]

/-- the sign, how many, how far in, the info -/
structure Op where
  c : UInt8
  n : Nat
  ind : Nat
  info : List UInt8

/-- how many columns a line is in, and what is behind them -/
def cl (l : List UInt8) : Nat := (lead inf l 0).1
def rs (l : List UInt8) : List UInt8 := l.drop (lead inf l 0).2

/-- the info behind the signs -/
def info (r : List UInt8) (c : UInt8) : List UInt8 := trim (r.drop (run c r))
/-- the fence that a line begins -/
def begins (l : List UInt8) : Option Op :=
  match rs l with
  | [] => none
  | c :: r => if cl l ≤ 3 ∧ (c = 96 ∨ c = 126) ∧ 3 ≤ run c (c :: r) ∧ ¬ (c = 96 ∧ 96 ∈ info (c :: r) c) then some ⟨c, run c (c :: r), cl l, info (c :: r) c⟩ else none
theorem begins_nil {l : List UInt8} (h : rs l = []) : begins l = none := by unfold begins; rw [h]
theorem begins_yes {l : List UInt8} {c : UInt8} {r : List UInt8} (h : rs l = c :: r) (h1 : cl l ≤ 3) (h2 : c = 96 ∨ c = 126) (h3 : 3 ≤ run c (c :: r)) (h4 : ¬ (c = 96 ∧ 96 ∈ info (c :: r) c)) :
    begins l = some ⟨c, run c (c :: r), cl l, info (c :: r) c⟩ := by unfold begins; rw [h]; simp only; rw [if_pos ⟨h1, h2, h3, h4⟩]
theorem begins_no {l : List UInt8} {c : UInt8} {r : List UInt8} (h : rs l = c :: r) (h1 : ¬ (cl l ≤ 3 ∧ (c = 96 ∨ c = 126) ∧ 3 ≤ run c (c :: r) ∧ ¬ (c = 96 ∧ 96 ∈ info (c :: r) c))) :
    begins l = none := by unfold begins; rw [h]; simp only; rw [if_neg h1]

/-- nothing but blanks and tabs -/
def emp (l : List UInt8) : Bool := decide ((lead inf l 0).2 = l.length)
/-- a line that ends a fence of the sign c, n of it -/
def ends (c : UInt8) (n : Int) (l : List UInt8) : Bool := decide (1 ≤ n ∧ cl l ≤ 3 ∧ n ≤ (run c (rs l) : Int)) && emp ((rs l).drop (run c (rs l)))
theorem ends_no {c : UInt8} {n : Int} {l : List UInt8} (h : ¬ (1 ≤ n ∧ cl l ≤ 3 ∧ n ≤ (run c (rs l) : Int))) : ends c n l = false := by unfold ends; rw [decide_eq_false h]; rfl
theorem ends_is {c : UInt8} {n : Int} {l : List UInt8} (h : 1 ≤ n ∧ cl l ≤ 3 ∧ n ≤ (run c (rs l) : Int)) : ends c n l = emp ((rs l).drop (run c (rs l))) := by unfold ends; rw [decide_eq_true h]; rfl
end Go.Proofs.YtmbcddehacfpgaaGreatDoor.Fn

namespace Go.Proofs.YtmbcddehacfpgaaGreatDoor.Lf
open Go.Proofs.YtmbcddehacfpgaaGreatDoor.Cl (isGap strip)
open Go.Proofs.YtmbcddehacfpgaaGreatDoor.Fn (cl rs run trim back emp)

/-- the end, or a blank or tab -/
def stop : List UInt8 → Bool
  | [] => true
  | b :: _ => isGap b
/-- without the signs at the end -/
def unhash : List UInt8 → List UInt8
  | [] => []
  | b :: r => if unhash r = [] ∧ b = 35 then [] else b :: unhash r
theorem unhash_snoc_sign (l : List UInt8) : unhash (l ++ [35]) = unhash l := by
  induction l with
  | nil => rfl
  | cons b r ih => rw [List.cons_append, unhash, unhash, ih]
theorem unhash_snoc_word (l : List UInt8) {x : UInt8} (h : x ≠ 35) : unhash (l ++ [x]) = l ++ [x] := by
  induction l with
  | nil => simp [unhash, h]
  | cons b r ih => rw [List.cons_append, unhash, ih, if_neg (by simp)]
theorem unhash_len (l : List UInt8) : (unhash l).length ≤ l.length := by
  induction l with
  | nil => simp [unhash]
  | cons b r ih => simp only [unhash]; split <;> simp only [List.length_cons, List.length_nil] <;> omega
theorem unhash_take (l : List UInt8) : l.take (unhash l).length = unhash l := by
  induction l with
  | nil => rfl
  | cons b r ih =>
    rw [unhash]
    split
    · rfl
    · rw [List.length_cons, List.take_succ_cons, ih]
/-- nothing is left, or a blank or tab stands last -/
def closed (u : List UInt8) : Bool := match u.getLast? with
  | none => true
  | some b => isGap b
/-- a heading's text, out of what is behind its signs -/
def title (t : List UInt8) : List UInt8 := if closed (unhash t) = true then back (unhash t) else t
/-- level, text -/
def heading (l : List UInt8) : Option (Nat × List UInt8) :=
  if cl l ≤ 3 ∧ 1 ≤ run 35 (rs l) ∧ run 35 (rs l) ≤ 6 ∧ stop ((rs l).drop (run 35 (rs l))) = true then some (run 35 (rs l), title (trim ((rs l).drop (run 35 (rs l))))) else none
/-- a sign of breaks -/
def ruler (c : UInt8) : Bool := c == 42 || c == 45 || c == 95
/-- the sign, or a blank or tab -/
def along (c b : UInt8) : Bool := b == c || isGap b
def brk (l : List UInt8) : Bool := match rs l with
  | [] => false
  | c :: r => decide (cl l ≤ 3) && ruler c && (c :: r).all (along c) && decide (3 ≤ (c :: r).count c)
theorem brk_nil {l : List UInt8} (h : rs l = []) : brk l = false := by unfold brk; rw [h]
theorem brk_far {l : List UInt8} (h : ¬ cl l ≤ 3) : brk l = false := by unfold brk; split <;> simp [h]
theorem brk_cons {l r : List UInt8} {c : UInt8} (h : rs l = c :: r) (h3 : cl l ≤ 3) : brk l = (ruler c && (c :: r).all (along c) && decide (3 ≤ (c :: r).count c)) := by
  unfold brk; rw [h]; simp [h3]
/-- what is behind the sign -/
def quote (l : List UInt8) : Option (List UInt8) := match rs l with
  | [] => none
  | c :: r => if cl l ≤ 3 ∧ c = 62 then some (strip 1 r) else none
/-- a sign of items -/
def bullet (c : UInt8) : Bool := c == 42 || c == 45 || c == 43
/-- how many columns of blanks belong to the sign -/
def inner (n : Nat) : Nat := if 4 < n then 1 else n
/-- the sign, how far in, what is behind -/
def item (l : List UInt8) : Option (UInt8 × Nat × List UInt8) := match rs l with
  | [] => none
  | c :: r =>
    if cl l ≤ 3 ∧ bullet c = true ∧ brk l = false ∧ stop r = true then
      if emp r = true then some (c, cl l + 2, []) else some (c, cl l + 1 + inner (cl r), strip (inner (cl r)) r)
    else none

theorem title_len (t : List UInt8) : (title t).length ≤ t.length := by
  unfold title
  split
  · have := Fn.back_len (unhash t)
    have := unhash_len t
    omega
  · exact Nat.le_refl _
end Go.Proofs.YtmbcddehacfpgaaGreatDoor.Lf

namespace Go.Proofs.YtmbcddehacfpgaaGreatDoor.Bk
open Go.Proofs.YtmbcddehacfpgaaGreatDoor.Cl (strip)
open Go.Proofs.YtmbcddehacfpgaaGreatDoor.Fn (cl rs emp trim)

/-- a node: kinds are 0 the document, 1 a quote, 2 a list, 3 an item, 4 a paragraph, 5 a heading, 6 a break, 7 a fence -/
structure Nd where
  par : Option Nat
  kind : Nat
  level : Nat
  text : List UInt8
  info : List UInt8
  line : Nat
  sign : UInt8
/-- an open container: a quote has no column -/
structure Box where
  n : Nat
  col : Option Nat
structure Pl where
  line : Nat
  op : Fn.Op
  first : Nat
  last : Nat
  closed : Bool
structure St where
  ns : List Nd
  opn : List Box
  para : Option Nat
  fence : Option Nat
  f : Fn.Op
  line : Nat
  places : List Pl

/-- the numbers of a node's own nodes, counted from o -/
def kidsFrom (i : Nat) : List Nd → Nat → List Nat
  | [], _ => []
  | x :: r, o => if x.par = some i then o :: kidsFrom i r (o + 1) else kidsFrom i r (o + 1)
def kids (ns : List Nd) (i : Nat) : List Nat := kidsFrom i ns 0
theorem kidsFrom_append (i : Nat) (a b : List Nd) (o : Nat) : kidsFrom i (a ++ b) o = kidsFrom i a o ++ kidsFrom i b (o + a.length) := by
  induction a generalizing o with
  | nil => simp [kidsFrom]
  | cons x r ih =>
    simp only [List.cons_append, kidsFrom, ih, List.length_cons]
    split <;> simp [Nat.add_assoc, Nat.add_comm 1]
theorem kids_snoc (ns : List Nd) (x : Nd) (i : Nat) : kids (ns ++ [x]) i = kids ns i ++ if x.par = some i then [ns.length] else [] := by
  unfold kids
  rw [kidsFrom_append]
  simp only [kidsFrom, Nat.zero_add]
theorem kidsFrom_lt (i : Nat) (ns : List Nd) (o : Nat) : ∀ k ∈ kidsFrom i ns o, o ≤ k ∧ k < o + ns.length := by
  induction ns generalizing o with
  | nil => simp [kidsFrom]
  | cons x r ih =>
    intro k hk
    simp only [kidsFrom] at hk
    split at hk
    · rcases List.mem_cons.1 hk with rfl | hk
      · simp
      · have := ih _ k hk; simp only [List.length_cons]; omega
    · have := ih _ k hk; simp only [List.length_cons]; omega
theorem kids_lt {i : Nat} {ns : List Nd} {k : Nat} (hk : k ∈ kids ns i) : k < ns.length := by
  have := (kidsFrom_lt i ns 0 k hk).2; omega
theorem kidsFrom_len (i : Nat) (ns : List Nd) (o : Nat) : (kidsFrom i ns o).length ≤ ns.length := by
  induction ns generalizing o with
  | nil => simp [kidsFrom]
  | cons x r ih =>
    simp only [kidsFrom]
    have := ih (o + 1)
    split <;> simp only [List.length_cons] <;> omega
theorem kids_len (ns : List Nd) (i : Nat) : (kids ns i).length ≤ ns.length := kidsFrom_len i ns 0
/-- no node is behind them all -/
def rooted (ns : List Nd) : Prop := ∀ x ∈ ns, ∀ i, x.par = some i → i < ns.length
theorem kidsFrom_none {i : Nat} {ns : List Nd} (h : ∀ x ∈ ns, x.par ≠ some i) (o : Nat) : kidsFrom i ns o = [] := by
  induction ns generalizing o with
  | nil => rfl
  | cons x r ih => rw [kidsFrom, if_neg (h x List.mem_cons_self)]; exact ih (fun y hy => h y (List.mem_cons_of_mem _ hy)) _
theorem kids_none {ns : List Nd} (h : rooted ns) {i : Nat} (hi : ns.length ≤ i) : kids ns i = [] :=
  kidsFrom_none (fun x hx he => by have := h x hx i he; omega) 0
/-- a node's parent is ahead of it -/
def ordered (ns : List Nd) : Prop := ∀ (j : Nat) (x : Nd) (p : Nat), ns[j]? = some x → x.par = some p → p < j
theorem rooted_of {ns : List Nd} (h : ordered ns) : rooted ns := fun x hx i hi => by
  obtain ⟨j, hj⟩ := List.mem_iff_getElem?.1 hx
  have := h j x i hj hi
  have := (List.getElem?_eq_some_iff.1 hj).1
  omega
/-- a node's text is another one: whose node it is stays -/
def setText (ns : List Nd) (i : Nat) (t : List UInt8) : List Nd := ns.modify i fun x => { x with text := t }
theorem kidsFrom_text (k : Nat) (ns : List Nd) (i : Nat) (t : List UInt8) (o : Nat) : kidsFrom k (setText ns i t) o = kidsFrom k ns o := by
  induction ns generalizing i o with
  | nil => cases i <;> simp [setText, kidsFrom]
  | cons x r ih =>
    cases i with
    | zero => simp [setText, kidsFrom]
    | succ i =>
      have := ih i (o + 1)
      unfold setText at this ⊢
      simp only [List.modify_succ_cons, kidsFrom, this]
theorem kids_text (ns : List Nd) (i : Nat) (t : List UInt8) (k : Nat) : kids (setText ns i t) k = kids ns k := kidsFrom_text k ns i t 0
theorem kidsFrom_congr (k : Nat) {a b : List Nd} (h : a.map (·.par) = b.map (·.par)) (o : Nat) : kidsFrom k a o = kidsFrom k b o := by
  induction a generalizing b o with
  | nil =>
    cases b with
    | nil => rfl
    | cons _ _ => simp at h
  | cons x r ih =>
    cases b with
    | nil => simp at h
    | cons y s =>
      simp only [List.map_cons, List.cons.injEq] at h
      simp only [kidsFrom, h.1, ih h.2]
theorem kids_congr {a b : List Nd} (h : a.map (·.par) = b.map (·.par)) (k : Nat) : kids a k = kids b k := kidsFrom_congr k h 0
theorem setText_len (ns : List Nd) (i : Nat) (t : List UInt8) : (setText ns i t).length = ns.length := by simp [setText]

/-- the innermost open container's number -/
def last (st : St) : Nat := match st.opn.getLast? with
  | none => 0
  | some b => b.n
/-- all but the first k containers are closed, and what is open in them -/
def shut (k : Nat) (st : St) : St := { st with opn := st.opn.take k, para := none, fence := none }
/-- one node more, in the innermost open container -/
def add (kind level : Nat) (text info : List UInt8) (sign : UInt8) (st : St) : St := { st with ns := st.ns ++ [⟨some (last st), kind, level, text, info, st.line, sign⟩] }
/-- does a node's last own node hold items of the sign -/
def listOf (ns : List Nd) (i : Nat) (c : UInt8) : Option Nat := match (kids ns i).getLast? with
  | none => none
  | some k => match ns[k]? with
    | none => none
    | some x => if x.kind = 2 ∧ x.sign = c then some k else none
/-- an item, of its list -/
def item (c : UInt8) (n : Nat) (st : St) : St :=
  match listOf st.ns (last st) c with
  | some l => { st with ns := st.ns ++ [⟨some l, 3, 0, [], [], st.line, 0⟩], opn := st.opn ++ [⟨st.ns.length, some n⟩] }
  | none => { st with ns := st.ns ++ [⟨some (last st), 2, 0, [], [], st.line, c⟩, ⟨some st.ns.length, 3, 0, [], [], st.line, 0⟩], opn := st.opn ++ [⟨st.ns.length + 1, some n⟩] }
/-- the list that an item belongs to, made where there is none -/
def listed (c : UInt8) (st : St) : St × Nat := match listOf st.ns (last st) c with
  | some l => (st, l)
  | none => ({ st with ns := st.ns ++ [⟨some (last st), 2, 0, [], [], st.line, c⟩] }, st.ns.length)
def opened (b : Box) (st : St) : St := { st with opn := st.opn ++ [b] }
def put (x : Nd) (st : St) : St := { st with ns := st.ns ++ [x] }
theorem item_eq (c : UInt8) (n : Nat) (st : St) : item c n st = opened ⟨(listed c st).1.ns.length, some n⟩ (put ⟨some (listed c st).2, 3, 0, [], [], (listed c st).1.line, 0⟩ (listed c st).1) := by
  unfold item listed
  split <;> simp [opened, put]
def quote (st : St) : St := { st with ns := st.ns ++ [⟨some (last st), 1, 0, [], [], st.line, 0⟩], opn := st.opn ++ [⟨st.ns.length, none⟩] }
def push (o : Option (UInt8 × Nat)) (st : St) : St := match o with
  | none => quote st
  | some (c, n) => item c n st
/-- how many containers take a line, and what is left of it -/
def take : List Box → List UInt8 → Nat × List UInt8
  | [], s => (0, s)
  | b :: r, s => match b.col with
    | none => match Lf.quote s with
      | none => (0, s)
      | some q => ((take r q).1 + 1, (take r q).2)
    | some n => if emp s = true then ((take r s).1 + 1, (take r s).2) else if cl s < n then (0, s) else ((take r (strip n s)).1 + 1, (take r (strip n s)).2)
/-- what a line begins: a quote, or an item of a sign and a column; and what is left of it -/
def opener (s : List UInt8) : Option (Option (UInt8 × Nat) × List UInt8) := match Lf.quote s with
  | some q => some (none, q)
  | none => match Lf.item s with
    | some (c, n, r) => some (some (c, n), r)
    | none => none
def grow : Nat → St → List UInt8 → St × List UInt8
  | 0, st, s => (st, s)
  | m + 1, st, s => match opener s with
    | none => (st, s)
    | some (o, r) => grow m (push o st) r
/-- a line that is no line of an open fence, behind its containers -/
def leaf (s : List UInt8) (k : Nat) (began : Bool) (st : St) : St :=
  if emp s = true then shut k st
  else match Lf.heading s with
    | some (n, t) => add 5 n t [] 0 (shut k st)
    | none =>
      if Lf.brk s = true then add 6 0 [] [] 0 (shut k st)
      else match Fn.begins s with
        | some f =>
          { add 7 0 [] f.info 0 (shut k st) with fence := some st.ns.length, f := f, places := if (st.opn.take k).isEmpty = true then st.places ++ [⟨st.line, f, st.line + 1, 0, false⟩] else st.places }
        | none => match st.para, began with
          | some p, false => { st with ns := setText st.ns p (((st.ns[p]?.map (·.text)).getD []) ++ 10 :: trim s) }
          | _, _ => { add 4 0 (trim s) [] 0 (shut k st) with para := some st.ns.length }
/-- the last place ends here -/
def closeLast (n : Nat) (c : Bool) (ps : List Pl) : List Pl := match ps.getLast? with
  | none => ps
  | some p => ps.dropLast ++ [{ p with last := n, closed := c }]
def fenced (s : List UInt8) (i : Nat) (st : St) : St :=
  if Fn.ends st.f.c st.f.n s = true then { st with fence := none, places := if st.opn.isEmpty = true then closeLast st.line true st.places else st.places }
  else { st with ns := setText st.ns i (((st.ns[i]?.map (·.text)).getD []) ++ strip st.f.ind s ++ [10]) }
def below (s : List UInt8) (k : Nat) (st : St) : St :=
  if k < 40 then match opener s with
    | none => leaf s k false st
    | some (o, r) => leaf (grow (39 - k) (push o (shut k st)) r).2 (grow (39 - k) (push o (shut k st)) r).1.opn.length true (grow (39 - k) (push o (shut k st)) r).1
  else leaf s k false st
def text (s : List UInt8) (st : St) : St :=
  match st.fence with
  | some i => if (take st.opn s).1 = st.opn.length then fenced (take st.opn s).2 i st else below (take st.opn s).2 (take st.opn s).1 st
  | none => below (take st.opn s).2 (take st.opn s).1 st
def start : St := ⟨[⟨none, 0, 0, [], [], 0, 0⟩], [], none, none, ⟨0, 0, 0, []⟩, 0, []⟩
def lines : List (List UInt8) → Nat → St → St
  | [], _, st => st
  | s :: r, i, st => lines r (i + 1) (text s { st with line := i })
/-- of a document's lines -/
def run (ls : List (List UInt8)) : St := lines ls 0 start
def places (ls : List (List UInt8)) (n : Nat) : List Pl := match (run ls).places.getLast? with
  | none => (run ls).places
  | some p => if p.closed = true then (run ls).places else closeLast n false (run ls).places

/-- a tree -/
inductive Tree where
  | mk (kind level : Nat) (text info : List UInt8) (line : Nat) (kids : List Tree)
/-- the trees of those of the nodes, counted from o, that are i's own -/
def treesOf : List Nd → Nat → Nat → List Tree
  | [], _, _ => []
  | x :: r, o, i => if x.par = some i then .mk x.kind x.level x.text x.info x.line (treesOf r (o + 1) o) :: treesOf r (o + 1) i else treesOf r (o + 1) i
def treeAt (ns : List Nd) (i : Nat) : Option Tree := match ns[i]? with
  | none => none
  | some x => some (.mk x.kind x.level x.text x.info x.line (treesOf (ns.drop (i + 1)) (i + 1) i))
def tree (ls : List (List UInt8)) : Tree := match (run ls).ns with
  | [] => .mk 0 0 [] [] 0 []
  | x :: r => .mk x.kind x.level x.text x.info x.line (treesOf r 1 0)
end Go.Proofs.YtmbcddehacfpgaaGreatDoor.Bk

namespace Go.Proofs.YtmbcddehacfpgaaGreatDoor.Ln

/-- is the byte an end's -/
def isEnd (b : UInt8) : Bool := b == 10 || b == 13

/-- how many bytes at the head of l end a line -/
def endLen : List UInt8 → Nat
  | [] => 0
  | 13 :: 10 :: _ => 2
  | _ :: _ => 1

/-- how many bytes stand ahead of the first end -/
def run : List UInt8 → Nat
  | [] => 0
  | b :: r => if isEnd b then 0 else run r + 1

theorem run_le (l : List UInt8) : run l ≤ l.length := by
  induction l with
  | nil => simp [run]
  | cons b r ih => simp only [run]; split <;> simp <;> omega

theorem endLen_two (r : List UInt8) : endLen (13 :: 10 :: r) = 2 := rfl
theorem endLen_cr {x : UInt8} (r : List UInt8) (h : x ≠ 10) : endLen (13 :: x :: r) = 1 := by
  unfold endLen; split
  · simp_all
  · rename_i heq; injection heq with _ h2; injection h2 with h3 _; exact absurd h3 h
  · rfl
theorem endLen_one : endLen [13] = 1 := rfl
theorem endLen_else {x : UInt8} (r : List UInt8) (h : x ≠ 13) : endLen (x :: r) = 1 := by
  unfold endLen; split
  · simp_all
  · rename_i heq; injection heq with h3 _; exact absurd h3 h
  · rfl

theorem endLen_le (l : List UInt8) : endLen l ≤ l.length := by
  unfold endLen; split <;> simp

theorem endLen_pos {l : List UInt8} (h : 0 < l.length) : 1 ≤ endLen l := by
  match l, h with
  | [b], _ => unfold endLen; split <;> simp_all
  | b :: c :: r, _ => unfold endLen; split <;> simp_all

/-- the first line of what stands from at on: where its text ends -/
def eol (l : List UInt8) (at_ : Nat) : Nat := at_ + run (l.drop at_)
/-- .. and where the next one begins -/
def nxt (l : List UInt8) (at_ : Nat) : Nat := eol l at_ + endLen (l.drop (eol l at_))

theorem eol_le {l : List UInt8} {k : Nat} (h : k ≤ l.length) : eol l k ≤ l.length := by
  have := run_le (l.drop k); rw [List.length_drop] at this; unfold eol; omega
theorem le_eol (l : List UInt8) (k : Nat) : k ≤ eol l k := by unfold eol; omega
theorem nxt_le {l : List UInt8} {k : Nat} (h : k ≤ l.length) : nxt l k ≤ l.length := by
  have h1 := eol_le h
  have := endLen_le (l.drop (eol l k)); rw [List.length_drop] at this; unfold nxt; omega
theorem le_nxt (l : List UInt8) (k : Nat) : eol l k ≤ nxt l k := by unfold nxt; omega
theorem lt_nxt {l : List UInt8} {k : Nat} (h : k < l.length) : k < nxt l k := by
  have h0 := le_eol l k
  by_cases h1 : eol l k < l.length
  · have := endLen_pos (l := l.drop (eol l k)) (by rw [List.length_drop]; omega)
    unfold nxt; omega
  · have h2 := le_nxt l k; omega

theorem run_end {b : UInt8} (r : List UInt8) (h : isEnd b = true) : run (b :: r) = 0 := by simp [run, h]
theorem run_step {b : UInt8} (r : List UInt8) (h : isEnd b = false) : run (b :: r) = run r + 1 := by simp [run, h]
theorem eol_at (l : List UInt8) : eol l l.length = l.length := by simp [eol, run]
theorem eol_end {l : List UInt8} {k : Nat} (hk : k < l.length) (h : isEnd l[k] = true) : eol l k = k := by
  unfold eol; rw [List.drop_eq_getElem_cons hk, run_end _ h]; omega
theorem eol_step {l : List UInt8} {k : Nat} (hk : k < l.length) (h : isEnd l[k] = false) : eol l (k + 1) = eol l k := by
  unfold eol; rw [List.drop_eq_getElem_cons hk, run_step _ h]; omega

/-- the lines from at on -/
def lines (l : List UInt8) (k : Nat) : List (Nat × Nat × Nat) :=
  if _h : k < l.length then (k, eol l k, nxt l k) :: lines l (nxt l k) else []
termination_by l.length - k
decreasing_by have := lt_nxt _h; omega

theorem lines_end {l : List UInt8} {k : Nat} (h : ¬ k < l.length) : lines l k = [] := by rw [lines, dif_neg h]
theorem lines_step {l : List UInt8} {k : Nat} (h : k < l.length) : lines l k = (k, eol l k, nxt l k) :: lines l (nxt l k) := by rw [lines, dif_pos h]

theorem lines_len (l : List UInt8) (k : Nat) : (lines l k).length ≤ l.length - k := by
  rw [lines]
  split
  · rename_i h
    have h1 := lt_nxt h
    have h2 := nxt_le (l := l) (k := k) (by omega)
    have := lines_len l (nxt l k)
    simp only [List.length_cons]; omega
  · simp
termination_by l.length - k
decreasing_by have := lt_nxt (by assumption); omega

/-- all lie within -/
theorem lines_within (l : List UInt8) (k : Nat) : ∀ x ∈ lines l k, x.1 ≤ x.2.1 ∧ x.2.1 ≤ x.2.2 ∧ x.2.2 ≤ l.length := by
  intro x hx
  rw [lines] at hx
  split at hx
  · rename_i h
    rcases List.mem_cons.1 hx with rfl | hx
    · exact ⟨le_eol _ _, le_nxt _ _, nxt_le (by omega)⟩
    · exact lines_within l (nxt l k) x hx
  · simp at hx
termination_by l.length - k
decreasing_by have := lt_nxt (by assumption); omega

/-- the lines' texts -/
def texts (l : List UInt8) (k : Nat) : List (List UInt8) := (lines l k).map fun x => mid l x.1 x.2.1
theorem texts_end {l : List UInt8} {k : Nat} (h : ¬ k < l.length) : texts l k = [] := by simp [texts, lines_end h]
theorem texts_step {l : List UInt8} {k : Nat} (h : k < l.length) : texts l k = mid l k (eol l k) :: texts l (nxt l k) := by simp [texts, lines_step h]
theorem texts_len (l : List UInt8) (k : Nat) : (texts l k).length ≤ l.length - k := by simpa [texts] using lines_len l k

/-- each text and the end -/
def join (ls : List (List UInt8)) (e : List UInt8) : List UInt8 := ls.flatMap fun s => s ++ e
theorem join_nil (e : List UInt8) : join [] e = [] := rfl
theorem join_take {ls : List (List UInt8)} {k : Nat} (e : List UInt8) (h : k < ls.length) : join (ls.take (k + 1)) e = join (ls.take k) e ++ ls[k] ++ e := by
  rw [List.take_succ_eq_append_getElem h]; simp only [join, List.flatMap_append, List.flatMap_cons, List.flatMap_nil, List.append_nil, List.append_assoc]
theorem join_take_le (ls : List (List UInt8)) (k : Nat) (e : List UInt8) : (join (ls.take k) e).length ≤ (join ls e).length := by
  have h := List.take_append_drop k ls
  have : join ls e = join (ls.take k) e ++ join (ls.drop k) e := by rw [join, join, join, ← List.flatMap_append, h]
  rw [this]; simp
theorem join_append (a b : List (List UInt8)) (e : List UInt8) : join (a ++ b) e = join a e ++ join b e := by simp [join]
theorem four_mul (a b : Nat) : 4 * (a * b) ≤ (a + b) * (a + b) := by
  rcases Nat.le_total a b with h | h
  · obtain ⟨d, rfl⟩ := Nat.le.dest h
    simp only [Nat.mul_add, Nat.add_mul, Nat.mul_comm d a]; omega
  · obtain ⟨d, rfl⟩ := Nat.le.dest h
    simp only [Nat.mul_add, Nat.add_mul, Nat.mul_comm d b]; omega
theorem join_len (ls : List (List UInt8)) (e : List UInt8) : (join ls e).length = (ls.map List.length).sum + ls.length * e.length := by
  induction ls with
  | nil => simp [join]
  | cons s r ih =>
    have : join (s :: r) e = s ++ e ++ join r e := rfl
    rw [this]; simp only [List.length_append, ih, List.map_cons, List.sum_cons, List.length_cons, Nat.add_mul]; omega
theorem join_small {ls : List (List UInt8)} {e : List UInt8} {n : Nat} (h1 : (ls.map List.length).sum ≤ n) (h2 : ls.length + e.length ≤ n) (hn : n ≤ 1048576) : (join ls e).length ≤ 1000000000000 := by
  rw [join_len]
  have h3 := four_mul ls.length e.length
  have h4 : (ls.length + e.length) * (ls.length + e.length) ≤ 1048576 * 1048576 := Nat.mul_le_mul (by omega) (by omega)
  omega
end Go.Proofs.YtmbcddehacfpgaaGreatDoor.Ln

namespace Go.Proofs.YtmbcddehacfpgaaGreatDoor.Pb
open Go.Proofs.YtmbcddehacfpgaaGreatDoor.Cl (strip)
open Go.Proofs.YtmbcddehacfpgaaGreatDoor.Fn (cl rs emp trim)
open Go.Proofs.YtmbcddehacfpgaaGreatDoor.Bk (Tree Pl)

/-- an open container: its closed blocks, and the list that is the last of them, if one is: its sign, its line, its items -/
structure Cn where
  kind : Nat
  line : Nat
  kids : List Tree
  sign : UInt8
  col : Nat
  lst : Option (UInt8 × Nat × List Tree)
/-- an open leaf; of kind 0 where none is -/
structure Of where
  kind : Nat
  line : Nat
  lines : List (List UInt8)
  op : Fn.Op
  ended : Bool
structure Rd where
  row : List Cn
  leaf : Of
  places : List Pl
def listTree : Option (UInt8 × Nat × List Tree) → List Tree
  | none => []
  | some (_, ln, is) => [.mk 2 0 [] [] ln is]
def Cn.all (c : Cn) : List Tree := c.kids ++ listTree c.lst
def Cn.tree (c : Cn) : Tree := .mk c.kind 0 [] [] c.line c.all
def Cn.listSign (c : Cn) : UInt8 := match c.lst with
  | none => 0
  | some (s, _, _) => s
def Cn.add (t : Tree) (c : Cn) : Cn := { c with kids := c.all ++ [t], lst := none }
/-- an item that is closed: of the last list, if it has its sign -/
def Cn.addItem (d c : Cn) : Cn := match c.lst with
  | none => { c with kids := c.all, lst := some (d.sign, d.line, [d.tree]) }
  | some (s, ln, is) => if s = d.sign then { c with lst := some (s, ln, is ++ [d.tree]) } else { c with kids := c.all, lst := some (d.sign, d.line, [d.tree]) }
def give (d c : Cn) : Cn := if d.kind = 3 then Cn.addItem d c else Cn.add d.tree c
def noOp : Fn.Op := ⟨0, 0, 0, []⟩
def noLeaf : Of := ⟨0, 0, [], noOp, false⟩
/-- texts with 10 between them -/
def joinNl : List (List UInt8) → List UInt8
  | [] => []
  | [x] => x
  | x :: y :: r => x ++ 10 :: joinNl (y :: r)
theorem joinNl_snoc (l : List (List UInt8)) (x : List UInt8) (h : l ≠ []) : joinNl (l ++ [x]) = joinNl l ++ 10 :: x := by
  induction l with
  | nil => exact absurd rfl h
  | cons a r ih =>
    cases r with
    | nil => rfl
    | cons b s =>
      have := ih (by simp)
      simp only [List.cons_append, joinNl] at this ⊢
      rw [this]; simp
def Of.place (l : Of) : Pl := ⟨l.line, l.op, l.line + 1, l.line + 1 + l.lines.length, l.ended⟩
def paraTree (l : Of) : Tree := .mk 4 0 (joinNl l.lines) [] l.line []
def fenceTree (l : Of) : Tree := .mk 7 0 (Ln.join l.lines [10]) l.op.info l.line []
def addTip (t : Tree) (r : Rd) : Rd := match r.row with
  | [] => r
  | c :: o => { r with row := c.add t :: o }
def closeLeaf (r : Rd) : Rd :=
  if r.leaf.kind = 4 then { addTip (paraTree r.leaf) r with leaf := noLeaf }
  else if r.leaf.kind = 7 then { addTip (fenceTree r.leaf) r with leaf := noLeaf, places := if r.row.length = 1 then r.places ++ [r.leaf.place] else r.places }
  else { r with leaf := noLeaf }
/-- the innermost n are closed -/
def pops : Nat → List Cn → List Cn
  | 0, r => r
  | _ + 1, [] => []
  | _ + 1, [c] => [c]
  | n + 1, d :: c :: o => pops n (give d c :: o)
def closeTo (k : Nat) (r : Rd) : Rd := { closeLeaf r with row := pops ((closeLeaf r).row.length - k) (closeLeaf r).row }
def fresh (ln : Nat) : Option (UInt8 × Nat) → Cn
  | none => ⟨1, ln, [], 0, 0, none⟩
  | some (c, n) => ⟨3, ln, [], c, n, none⟩
def push (c : Cn) (r : Rd) : Rd := { r with row := c :: r.row }
/-- what a line begins -/
def begin (ln : Nat) : Nat → Nat → Rd → List UInt8 → Rd × Nat × List UInt8
  | 0, k, r, s => (r, k, s)
  | m + 1, k, r, s => match Bk.opener s with
    | none => (r, k, s)
    | some (o, q) => begin ln m (k + 1) (push (fresh ln o) (closeTo k r)) q
/-- does a container take a line, and what is left of it there -/
def Cn.take (c : Cn) (s : List UInt8) : Option (List UInt8) :=
  if c.kind = 1 then Lf.quote s
  else if c.kind = 3 then (if emp s = true then some s else if cl s < c.col then none else some (strip c.col s))
  else some s
/-- how many of a row, the outermost first, take a line, and what is left of it -/
def take : List Cn → List UInt8 → Nat × List UInt8
  | [], s => (0, s)
  | c :: r, s => match c.take s with
    | none => (0, s)
    | some q => ((take r q).1 + 1, (take r q).2)
def leafLine (ln k : Nat) (s : List UInt8) (r : Rd) : Rd :=
  if emp s = true then closeTo k r
  else match Lf.heading s with
    | some (n, t) => addTip (.mk 5 n t [] ln []) (closeTo k r)
    | none =>
      if Lf.brk s = true then addTip (.mk 6 0 [] [] ln []) (closeTo k r)
      else match Fn.begins s with
        | some f => { closeTo k r with leaf := ⟨7, ln, [], f, false⟩ }
        | none =>
          if r.leaf.kind = 4 then { r with leaf := { r.leaf with lines := r.leaf.lines ++ [trim s] } }
          else { closeTo k r with leaf := ⟨4, ln, [trim s], noOp, false⟩ }
def fenceLine (s : List UInt8) (r : Rd) : Rd :=
  if Fn.ends r.leaf.op.c r.leaf.op.n s = true then closeLeaf { r with leaf := { r.leaf with ended := true } }
  else { r with leaf := { r.leaf with lines := r.leaf.lines ++ [strip r.leaf.op.ind s] } }
def takeLine (ln : Nat) (s : List UInt8) (r : Rd) : Rd :=
  if r.leaf.kind = 7 ∧ (take r.row.reverse s).1 = r.row.length then fenceLine (take r.row.reverse s).2 r
  else leafLine ln (begin ln (41 - (take r.row.reverse s).1) (take r.row.reverse s).1 r (take r.row.reverse s).2).2.1 (begin ln (41 - (take r.row.reverse s).1) (take r.row.reverse s).1 r (take r.row.reverse s).2).2.2
    (begin ln (41 - (take r.row.reverse s).1) (take r.row.reverse s).1 r (take r.row.reverse s).2).1
def start : Rd := ⟨[⟨0, 0, [], 0, 0, none⟩], noLeaf, []⟩
def lines : List (List UInt8) → Nat → Rd → Rd
  | [], _, r => r
  | s :: t, i, r => lines t (i + 1) (takeLine i s r)
def read (ls : List (List UInt8)) : Rd := closeTo 1 (lines ls 0 start)
def tree (ls : List (List UInt8)) : Tree := match (read ls).row with
  | [] => .mk 0 0 [] [] 0 []
  | c :: _ => c.tree
end Go.Proofs.YtmbcddehacfpgaaGreatDoor.Pb

namespace Go.Proofs.YtmbcddehacfpgaaGreatDoor
open Go.RowKit

theorem run_byte {S : List UInt8} {i : Nat} (h : i < S.length) (w : World) :
    (Instr.index 9 (.string (bs S)) (.int .i64 (i : Int))).run Tryz.prog w = .ok (.int .u8 (S[i].toNat : Int)) w := by
  have hs := bs_size S
  rw [run_index_string w 9 (bs S) .i64 (i : Int) Tryz.underlying9, dif_pos ⟨by omega, by omega⟩]
  rfl

theorem byte_eq {b : UInt8} {n : Nat} (hn : n < 256) (h : b = UInt8.ofNat n) : ((b.toNat : Int) == (n : Int)) = true := by
  subst h; simp; omega

theorem byte_ne {b : UInt8} {n : Nat} (hn : n < 256) (h : b ≠ UInt8.ofNat n) : ((b.toNat : Int) == (n : Int)) = false := by
  rw [beq_eq_false_iff_ne]; intro he; apply h
  have : b.toNat = n := by omega
  subst this; simp

/-- the two tests of a blank or a tab -/
theorem gap_tests (b : UInt8) : (((b.toNat : Int) == (32 : Int)) = true ∧ Cl.isGap b = true) ∨ (((b.toNat : Int) == (32 : Int)) = false ∧ ((b.toNat : Int) == (9 : Int)) = true ∧ Cl.isGap b = true) ∨ (((b.toNat : Int) == (32 : Int)) = false ∧ ((b.toNat : Int) == (9 : Int)) = false ∧ Cl.isGap b = false) := by
  by_cases h : b = 32
  · exact .inl ⟨byte_eq (n := 32) (by omega) h, by subst h; rfl⟩
  · have h1 := byte_ne (n := 32) (by omega) h
    by_cases h' : b = 9
    · exact .inr (.inl ⟨h1, byte_eq (n := 9) (by omega) h', by subst h'; rfl⟩)
    · exact .inr (.inr ⟨h1, byte_ne (n := 9) (by omega) h', by simp [Cl.isGap, h, h']⟩)

/-- a text from a place on -/
theorem run_from {S : List UInt8} {i : Nat} (h : i ≤ S.length) (w : World) :
    (Instr.slice 9 (.string (bs S)) (some (.int .i64 (i : Int))) none none).run Tryz.prog w = .ok (.string (bs (S.drop i))) w := by
  have hs := bs_size S
  have he : (bs S).extract i (bs S).size = bs (S.drop i) := by
    apply ByteArray.ext
    simp only [bs, ByteArray.data_extract, List.extract_toArray, List.extract_eq_take_drop]
    rw [List.take_of_length_le (by simp [ByteArray.size])]
  have h1 : (0 : Int) ≤ (i : Int) ∧ (i : Int) ≤ ((bs S).size : Int) := by omega
  simp [Instr.slice, run_underlying Tryz.underlying9, Instr.sliceBounds, run_sliceBound, h1, he, go_sem]

/-- a text up to a place -/
theorem run_upto {S : List UInt8} {i : Nat} (h : i ≤ S.length) (w : World) :
    (Instr.slice 9 (.string (bs S)) none (some (.int .i64 (i : Int))) none).run Tryz.prog w = .ok (.string (bs (S.take i))) w := by
  have hs := bs_size S
  have he : (bs S).extract 0 i = bs (S.take i) := by
    apply ByteArray.ext
    simp only [bs, ByteArray.data_extract, List.extract_toArray, List.extract_eq_take_drop]
    simp
  have h1 : (0 : Int) ≤ (i : Int) ∧ (i : Int) ≤ ((bs S).size : Int) := by omega
  simp [Instr.slice, run_underlying Tryz.underlying9, Instr.sliceBounds, run_sliceBound, h1, he, go_sem]

theorem byte_same {a b : UInt8} (h : a = b) : ((a.toNat : Int) == (b.toNat : Int)) = true := by subst h; simp

theorem byte_diff {a b : UInt8} (h : a ≠ b) : ((a.toNat : Int) == (b.toNat : Int)) = false := by
  rw [beq_eq_false_iff_ne]; intro he; exact h (UInt8.toNat_inj.1 (by omega))

theorem ret_i64 {a b : Int} (h : a = b) : Ending.returned (.int .i64 a) = .returned (.int .i64 b) := by rw [h]

/-- a text from a place to another -/
theorem run_mid {S : List UInt8} {i j : Nat} (h : i ≤ j) (hj : j ≤ S.length) (w : World) :
    (Instr.slice 9 (.string (bs S)) (some (.int .i64 (i : Int))) (some (.int .i64 (j : Int))) none).run Tryz.prog w = .ok (.string (bs (mid S i j))) w := by
  have hs := bs_size S
  have he : (bs S).extract i j = bs (mid S i j) := by
    apply ByteArray.ext
    simp only [bs, ByteArray.data_extract, List.extract_toArray, List.extract_eq_take_drop, mid]
  have hr := run_slice_string (P := Tryz.prog) w 9 (bs S) .i64 .i64 (i : Int) (j : Int) Tryz.underlying9 (by omega) (by omega) (by omega)
  rw [hr, show ((i : Int)).toNat = i from by omega, show ((j : Int)).toNat = j from by omega, he]
/-- a byte of a text, as a text -/
theorem run_one_at {S : List UInt8} {i : Nat} (h : i < S.length) {v u : Int} (hv : v = (i : Int)) (hu : u = (i : Int) + 1) (w : World) :
    (Instr.slice 9 (.string (bs S)) (some (.int .i64 v)) (some (.int .i64 u)) none).run Tryz.prog w = .ok (.string (bs [S[i]])) w := by
  subst hv hu
  have hs := bs_size S
  have he : (bs S).extract i (i + 1) = bs [S[i]] := by
    apply ByteArray.ext
    simp only [bs, ByteArray.data_extract, List.extract_toArray, List.extract_eq_take_drop]
    rw [List.drop_eq_getElem_cons h, show i + 1 - i = 1 from by omega]; rfl
  have hr := run_slice_string (P := Tryz.prog) w 9 (bs S) .i64 .i64 (i : Int) ((i : Int) + 1) Tryz.underlying9 (by omega) (by omega) (by omega)
  rw [hr, show ((i : Int)).toNat = i from by omega, show ((i : Int) + 1).toNat = i + 1 from by omega, he]
theorem run_one {S : List UInt8} {i : Nat} (h : i < S.length) (w : World) :
    (Instr.slice 9 (.string (bs S)) (some (.int .i64 (i : Int))) (some (.int .i64 ((i : Int) + 1))) none).run Tryz.prog w = .ok (.string (bs [S[i]])) w := run_one_at h rfl rfl w
theorem run_byte_at {S : List UInt8} {i : Nat} (h : i < S.length) {v : Int} (hv : v = (i : Int)) (w : World) :
    (Instr.index 9 (.string (bs S)) (.int .i64 v)).run Tryz.prog w = .ok (.int .u8 (S[i].toNat : Int)) w := by
  subst hv; exact run_byte h w

theorem text_nil : (bs []).toList.isEmpty = true := by rw [bs_toList]; rfl
theorem text_cons (c : UInt8) (r : List UInt8) : (bs (c :: r)).toList.isEmpty = false := by rw [bs_toList]; rfl
end Go.Proofs.YtmbcddehacfpgaaGreatDoor

namespace Go.Proofs.YtmbcddehacfpgaaGreatDoor
open Go.RowKit

theorem tab_col (c : Nat) : (c : Int) - (c : Int).tmod 4 + 4 = (Cl.step c 9 : Nat) ∧ (c : Int) + 4 - (c : Int).tmod 4 = (Cl.step c 9 : Nat) := by
  rw [Cl.step_tab, Int.tmod_eq_emod_of_nonneg (by omega)]
  have : c % 4 < 4 := Nat.mod_lt _ (by omega)
  omega

theorem step_tab_int (c : Nat) : (c : Int) - (c : Int) % 4 + 4 = (Cl.step c 9 : Nat) ∧ (c : Int) + 4 - (c : Int) % 4 = (Cl.step c 9 : Nat) := by
  rw [Cl.step_tab]
  have : c % 4 < 4 := Nat.mod_lt _ (by omega)
  omega

set_option maxHeartbeats 1000000 in
theorem after_any (c : Nat) (b : UInt8) (w : World) (hc : c ≤ 1000000000000000) :
    Calls Tryz.prog 105 #[.int .i64 c, .int .u8 (b.toNat : Int)] w fun e w' => e = .returned (.int .i64 (Cl.step c b : Nat)) ∧ w = w' := by
  by_cases h : b = 9
  · subst h
    have ht := (step_tab_int c).1
    go_enter Tryz.func105, Tryz.ntmps105
    go_wp2
    go_ret
    refine ⟨?_, rfl⟩
    rw [← ht]; rfl
  · have ht := byte_ne (n := 9) (by omega) h
    have hs := Cl.step_one c h
    clear h
    go_enter Tryz.func105, Tryz.ntmps105
    go_wp2
    go_ret
    refine ⟨?_, rfl⟩
    rw [hs]; rfl

set_option maxHeartbeats 1000000 in
theorem rstep_any (c : Nat) (b : UInt8) (w : World) (hc : c ≤ 1000000000000000) :
    Calls Tryz.prog 71 #[.int .i64 c, .int .u8 (b.toNat : Int)] w fun e w' => e = .returned (.int .i64 (Cl.step c b : Nat)) ∧ w = w' := by
  by_cases h : b = 9
  · subst h
    have ht := (step_tab_int c).2
    go_enter Tryz.func71, Tryz.ntmps71
    go_wp2
    go_ret
    refine ⟨?_, rfl⟩
    rw [← ht]; rfl
  · have ht := byte_ne (n := 9) (by omega) h
    have hs := Cl.step_one c h
    clear h
    go_enter Tryz.func71, Tryz.ntmps71
    go_wp2
    go_ret
    refine ⟨?_, rfl⟩
    rw [hs]; rfl

set_option maxHeartbeats 1000000 in
theorem gap_any (b : UInt8) (w : World) :
    Calls Tryz.prog 70 #[.int .u8 (b.toNat : Int)] w fun e w' => e = .returned (.bool (Cl.isGap b)) ∧ w = w' := by
  rcases gap_tests b with ⟨h1, h3⟩ | ⟨h1, h2, h3⟩ | ⟨h1, h2, h3⟩
  all_goals
    go_enter Tryz.func70, Tryz.ntmps70
    go_wp2
    go_ret
    exact ⟨by rw [h3]; rfl, rfl⟩

theorem ret_two {p : Nat × Nat} {c k : Nat} (h : Hid ((c, k) = p)) : Ending.returned (.tuple #[.int .i64 (c : Int), .int .i64 (k : Int)]) = .returned (.tuple #[.int .i64 (p.1 : Nat), .int .i64 (p.2 : Nat)]) := by
  rw [← h.out]

set_option maxHeartbeats 1000000 in
theorem lead_any (l : List UInt8) (n : Int) (w : World) (hl : l.length ≤ 140737488355328) :
    Calls Tryz.prog 81 #[.string (bs l), .int .i64 n] w fun e w' => e = .returned (.tuple #[.int .i64 ((Cl.lead n l 0).1 : Nat), .int .i64 ((Cl.lead n l 0).2 : Nat)]) ∧ w = w' := by
  have hsz := bs_size l
  go_enter Tryz.func81, Tryz.ntmps81
  go_wp2_with fail
  go_loop [6, 7] (fun v u => ∃ c k : Nat, k ≤ l.length ∧ c ≤ 4 * k ∧ v = .int .i64 c ∧ u = .int .i64 k ∧ Hid (Cl.fin n l k c = Cl.lead n l 0)) (fun v u => l.length - (intOf u).toNat)
  case atStart => exact ⟨0, 0, by omega, by omega, rfl, rfl, Lib.hid (Cl.fin_zero n l)⟩
  case round =>
    obtain ⟨c, k, hk, hck, rfl, rfl, hf⟩ := hrel
    by_cases hc : (c : Int) < n
    · rcases Nat.lt_or_eq_of_le hk with hlt | rfl
      · have hx := run_byte hlt w
        have hst := Cl.step_le c l[k]
        rcases gap_tests l[k] with ⟨h1, h3⟩ | ⟨h1, h2, h3⟩ | ⟨h1, h2, h3⟩
        · have hf2 := Lib.hid ((Cl.fin_step hlt hc h3).trans hf.out)
          go_wp2_with (go_at_call 105; refine (after_any c l[k] _ (by omega)).mono ?_; rintro e w' ⟨rfl, rfl⟩)
          go_round
          case rel => exact ⟨Cl.step c l[k], k + 1, by omega, by omega, rfl, by go_num, hf2⟩
          case measure => simp [intOf]; omega
        · have hf2 := Lib.hid ((Cl.fin_step hlt hc h3).trans hf.out)
          go_wp2_with (go_at_call 105; refine (after_any c l[k] _ (by omega)).mono ?_; rintro e w' ⟨rfl, rfl⟩)
          go_round
          case rel => exact ⟨Cl.step c l[k], k + 1, by omega, by omega, rfl, by go_num, hf2⟩
          case measure => simp [intOf]; omega
        · have hfin := Lib.hid ((Cl.fin_word hlt h3).symm.trans hf.out)
          go_wp2
          go_returns
          exact ⟨ret_two hfin, rfl⟩
      · have hfin := Lib.hid ((Cl.fin_end (by omega)).symm.trans hf.out)
        go_wp2
        go_returns
        exact ⟨ret_two hfin, rfl⟩
    · have hfin := Lib.hid ((Cl.fin_full l hc).symm.trans hf.out)
      go_wp2
      go_returns
      exact ⟨ret_two hfin, rfl⟩

set_option maxHeartbeats 1000000 in
theorem indent_any (l : List UInt8) (w : World) (hl : l.length ≤ 140737488355328) :
    Calls Tryz.prog 104 #[.string (bs l)] w fun e w' => e = .returned (.tuple #[.int .i64 ((Cl.lead Cl.inf l 0).1 : Nat), .int .i64 ((Cl.lead Cl.inf l 0).2 : Nat)]) ∧ w = w' := by
  go_enter Tryz.func104, Tryz.ntmps104
  go_wp2_with (go_at_call 81; refine (lead_any l Cl.inf _ hl).mono ?_; rintro e w' ⟨rfl, rfl⟩)
  go_ret2
  exact ⟨rfl, rfl⟩

set_option maxHeartbeats 1000000 in
theorem rindent_any (l : List UInt8) (w : World) (hl : l.length ≤ 140737488355328) :
    Calls Tryz.prog 68 #[.string (bs l)] w fun e w' => e = .returned (.tuple #[.int .i64 ((Cl.lead Cl.inf l 0).1 : Nat), .int .i64 ((Cl.lead Cl.inf l 0).2 : Nat)]) ∧ w = w' := by
  have hsz := bs_size l
  go_enter Tryz.func68, Tryz.ntmps68
  go_wp2_with fail
  go_loop [4, 5] (fun v u => ∃ c k : Nat, k ≤ l.length ∧ c ≤ 4 * k ∧ v = .int .i64 c ∧ u = .int .i64 k ∧ Hid (Cl.fin Cl.inf l k c = Cl.lead Cl.inf l 0)) (fun v u => l.length - (intOf u).toNat)
  case atStart => exact ⟨0, 0, by omega, by omega, rfl, rfl, Lib.hid (Cl.fin_zero _ l)⟩
  case round =>
    obtain ⟨c, k, hk, hck, rfl, rfl, hf⟩ := hrel
    rcases Nat.lt_or_eq_of_le hk with hlt | rfl
    · have hx := run_byte hlt w
      have hst := Cl.step_le c l[k]
      have hg := gap_any l[k]
      by_cases h3 : Cl.isGap l[k] = true
      · have hf2 := Lib.hid ((Cl.fin_step hlt (by unfold Cl.inf; omega) h3).trans hf.out)
        rw [h3] at hg
        go_wp2_with (first | (go_at_call 70; refine (hg _).mono ?_; rintro e w' ⟨rfl, rfl⟩) | (go_at_call 71; refine (rstep_any c l[k] _ (by omega)).mono ?_; rintro e w' ⟨rfl, rfl⟩))
        go_round
        case rel => exact ⟨Cl.step c l[k], k + 1, by omega, by omega, rfl, by go_num, hf2⟩
        case measure => simp [intOf]; omega
      · have hfin := Lib.hid ((Cl.fin_word hlt (by simpa using h3)).symm.trans hf.out)
        rw [show Cl.isGap l[k] = false from by simpa using h3] at hg
        go_wp2_with (go_at_call 70; refine (hg _).mono ?_; rintro e w' ⟨rfl, rfl⟩)
        go_returns
        exact ⟨ret_two hfin, rfl⟩
    · have hfin := Lib.hid ((Cl.fin_end (by omega)).symm.trans hf.out)
      go_wp2
      go_returns
      exact ⟨ret_two hfin, rfl⟩

theorem ret_same {p q : Nat} : Ending.returned (.bool (((p : Nat) : Int) == (q : Int))) = .returned (.bool (decide (p = q))) := by
  congr 2; rw [Bool.eq_iff_iff]; simp; omega

set_option maxHeartbeats 1000000 in
theorem empty_any (l : List UInt8) (w : World) (hl : l.length ≤ 140737488355328) :
    Calls Tryz.prog 59 #[.string (bs l)] w fun e w' => e = .returned (.bool (decide ((Cl.lead Cl.inf l 0).2 = l.length))) ∧ w = w' := by
  have hsz := bs_size l
  go_enter Tryz.func59, Tryz.ntmps59
  go_wp2_with (go_at_call 81; refine (lead_any l Cl.inf _ hl).mono ?_; rintro e w' ⟨rfl, rfl⟩)
  go_ret
  exact ⟨ret_same, rfl⟩

set_option maxHeartbeats 1000000 in
theorem rempty_any (l : List UInt8) (w : World) (hl : l.length ≤ 140737488355328) :
    Calls Tryz.prog 67 #[.string (bs l)] w fun e w' => e = .returned (.bool (decide ((Cl.lead Cl.inf l 0).2 = l.length))) ∧ w = w' := by
  have hsz := bs_size l
  go_enter Tryz.func67, Tryz.ntmps67
  go_wp2_with (go_at_call 68; refine (rindent_any l _ hl).mono ?_; rintro e w' ⟨rfl, rfl⟩)
  go_ret
  exact ⟨ret_same, rfl⟩
end Go.Proofs.YtmbcddehacfpgaaGreatDoor

namespace Go.Proofs.YtmbcddehacfpgaaGreatDoor
open Go.RowKit

def betB (r a b : Int) : Bool := decide (a ≤ r ∧ r ≤ b)
def blankB (r : Int) : Bool := decide ((9 ≤ r ∧ r ≤ 13) ∨ r = 32 ∨ r = 160 ∨ r = 8195 ∨ r = 12288)
def asciiB (r : Int) : Bool := decide ((33 ≤ r ∧ r ≤ 47) ∨ (58 ≤ r ∧ r ≤ 64) ∨ (91 ≤ r ∧ r ≤ 96) ∨ (123 ≤ r ∧ r ≤ 126))
def punctB (r : Int) : Bool := decide (((33 ≤ r ∧ r ≤ 47) ∨ (58 ≤ r ∧ r ≤ 64) ∨ (91 ≤ r ∧ r ≤ 96) ∨ (123 ≤ r ∧ r ≤ 126)) ∨ r = 161 ∨ r = 167 ∨ (8208 ≤ r ∧ r ≤ 8231) ∨ r = 12289 ∨ r = 12290)
def letterB (r : Int) : Bool := decide ((97 ≤ r ∧ r ≤ 122) ∨ (65 ≤ r ∧ r ≤ 90) ∨ (192 ≤ r ∧ r ≠ 65533 ∧ ¬ (r = 8195 ∨ r = 12288) ∧ ¬ ((8208 ≤ r ∧ r ≤ 8231) ∨ r = 12289 ∨ r = 12290)))
def smallR (r : Int) : Int := if 65 ≤ r ∧ r ≤ 90 then r + 32 else r

theorem ret_bool {a b : Bool} (h : a = b) : Ending.returned (.bool a) = .returned (.bool b) := by rw [h]

theorem ret_i32 {a b : Int} (h : a = b) : Ending.returned (.int .i32 a) = .returned (.int .i32 b) := by rw [h]

end Go.Proofs.YtmbcddehacfpgaaGreatDoor

namespace Go.Proofs.YtmbcddehacfpgaaGreatDoor

/-- the tree at a node -/
def Bk.treeT (ns : List Bk.Nd) (j : Nat) : Bk.Tree := match ns[j]? with
  | some x => .mk x.kind x.level x.text x.info x.line (Bk.treesOf (ns.drop (j + 1)) (j + 1) j)
  | none => .mk 0 0 [] [] 0 []
theorem treesOf_eq (ns : List Bk.Nd) (i : Nat) : ∀ (r : List Bk.Nd) (o : Nat), ns.drop o = r → Bk.treesOf r o i = (Bk.kidsFrom i r o).map (Bk.treeT ns)
  | [], _, _ => rfl
  | x :: r, o, h => by
    have hx : ns[o]? = some x := by rw [← List.head?_drop, h]; rfl
    have hr : ns.drop (o + 1) = r := by rw [← List.tail_drop, h]; rfl
    unfold Bk.treesOf Bk.kidsFrom
    split
    · rw [List.map_cons, ← treesOf_eq ns i r (o + 1) hr]
      congr 1
      unfold Bk.treeT
      rw [hx, hr]
    · exact treesOf_eq ns i r (o + 1) hr
theorem kids_later {ns : List Bk.Nd} (h : Bk.ordered ns) {i : Nat} (hi : i < ns.length) : Bk.kids ns i = Bk.kidsFrom i (ns.drop (i + 1)) (i + 1) := by
  have hl : (ns.take (i + 1)).length = i + 1 := by rw [List.length_take]; omega
  have ht : Bk.kidsFrom i (ns.take (i + 1)) 0 = [] := Bk.kidsFrom_none (fun x hx he => by
    obtain ⟨j, hj⟩ := List.mem_iff_getElem?.1 hx
    have hjl := (List.getElem?_eq_some_iff.1 hj).1
    rw [hl] at hjl
    rw [List.getElem?_take_of_lt (by omega)] at hj
    have := h j x i hj he
    omega) 0
  have := Bk.kidsFrom_append i (ns.take (i + 1)) (ns.drop (i + 1)) 0
  rw [List.take_append_drop, ht, List.nil_append, hl, Nat.zero_add] at this
  exact this
theorem treeT_at {ns : List Bk.Nd} (h : Bk.ordered ns) {i : Nat} (hi : i < ns.length) : Bk.treeT ns i = .mk ns[i].kind ns[i].level ns[i].text ns[i].info ns[i].line ((Bk.kids ns i).map (Bk.treeT ns)) := by
  rw [kids_later h hi, ← treesOf_eq ns i _ (i + 1) rfl]
  unfold Bk.treeT
  rw [List.getElem?_eq_getElem hi]
theorem kids_gt {ns : List Bk.Nd} (h : Bk.ordered ns) {i k : Nat} (hi : i < ns.length) (hk : k ∈ Bk.kids ns i) : i < k := by
  rw [kids_later h hi] at hk
  have := (Bk.kidsFrom_lt i _ (i + 1) k hk).1
  omega
end Go.Proofs.YtmbcddehacfpgaaGreatDoor

namespace Go.Proofs.YtmbcddehacfpgaaGreatDoor.Pb
open Go.Proofs.YtmbcddehacfpgaaGreatDoor.Cl (strip)
open Go.Proofs.YtmbcddehacfpgaaGreatDoor.Fn (cl rs emp trim)
open Go.Proofs.YtmbcddehacfpgaaGreatDoor.Bk (Tree Pl Nd Box St treeT kids ordered)

/-- a node, and those that lead to it -/
inductive Anc (ns : List Nd) : Nat → Nat → Prop where
  | refl (j : Nat) : Anc ns j j
  | step {j p q : Nat} {x : Nd} : ns[p]? = some x → x.par = some q → Anc ns j q → Anc ns j p
theorem anc_le {ns : List Nd} (h : ordered ns) {j p : Nat} (a : Anc ns j p) : j ≤ p := by
  induction a with
  | refl => exact Nat.le_refl _
  | step h1 h2 _ ih => have := h _ _ _ h1 h2; omega
theorem anc_lin {ns : List Nd} {j k p : Nat} (a : Anc ns j p) (b : Anc ns k p) : Anc ns j k ∨ Anc ns k j := by
  induction a with
  | refl => exact .inr b
  | step h1 h2 a2 ih =>
    cases b with
    | refl => exact .inl (.step h1 h2 a2)
    | step h3 h4 b2 =>
      rw [h1] at h3; cases h3
      rw [h2] at h4; cases h4
      exact ih b2
theorem anc_sib {ns : List Nd} (h : ordered ns) {i j k p : Nat} {x y : Nd} (hj : ns[j]? = some x) (hjp : x.par = some i) (hk : ns[k]? = some y) (hkp : y.par = some i) (a : Anc ns j p) (b : Anc ns k p) : j = k := by
  have h1 : ∀ {j k : Nat} {x y : Nd}, ns[j]? = some x → x.par = some i → ns[k]? = some y → y.par = some i → Anc ns j k → j = k := by
    intro j k x y hj hjp hk hkp a
    cases a with
    | refl => rfl
    | step h3 h4 b2 =>
      rw [hk] at h3; cases h3
      rw [hkp] at h4; cases h4
      have := anc_le h b2
      have := h _ _ _ hj hjp
      omega
  rcases anc_lin a b with c | c
  · exact h1 hj hjp hk hkp c
  · exact (h1 hk hkp hj hjp c).symm
theorem anc_up {ns : List Nd} {j q p : Nat} {x : Nd} (hj : ns[j]? = some x) (hp : x.par = some q) (a : Anc ns j p) : Anc ns q p := by
  induction a with
  | refl => exact .step hj hp (.refl _)
  | step h1 h2 _ ih => exact .step h1 h2 ih
theorem kidsFrom_mem {i : Nat} {l : List Nd} {o k : Nat} (h : k ∈ Bk.kidsFrom i l o) : ∃ x, l[k - o]? = some x ∧ x.par = some i ∧ o ≤ k := by
  induction l generalizing o with
  | nil => simp [Bk.kidsFrom] at h
  | cons x r ih =>
    simp only [Bk.kidsFrom] at h
    have h2 : k ∈ Bk.kidsFrom i r (o + 1) → ∃ y, (x :: r)[k - o]? = some y ∧ y.par = some i ∧ o ≤ k := fun h => by
      obtain ⟨y, h1, h2, h3⟩ := ih h
      refine ⟨y, ?_, h2, by omega⟩
      rw [show k - o = (k - (o + 1)) + 1 from by omega, List.getElem?_cons_succ]
      exact h1
    split at h
    · rcases List.mem_cons.1 h with rfl | h
      · rename_i hx
        exact ⟨x, by simp, hx, Nat.le_refl _⟩
      · exact h2 h
    · exact h2 h
theorem kids_mem {ns : List Nd} {i k : Nat} (h : k ∈ kids ns i) : ∃ x, ns[k]? = some x ∧ x.par = some i := by
  obtain ⟨x, h1, h2, _⟩ := kidsFrom_mem h
  exact ⟨x, by simpa using h1, h2⟩
theorem kidsFrom_rise (i : Nat) (l : List Nd) (o : Nat) : (Bk.kidsFrom i l o).Pairwise (· < ·) := by
  induction l generalizing o with
  | nil => simp [Bk.kidsFrom]
  | cons x r ih =>
    simp only [Bk.kidsFrom]
    split
    · exact List.pairwise_cons.2 ⟨fun k hk => by have := (Bk.kidsFrom_lt i r (o + 1) k hk).1; omega, ih _⟩
    · exact ih _
theorem kids_last_ne {ns : List Nd} {i j : Nat} {ks : List Nat} (h : kids ns i = ks ++ [j]) : ∀ k ∈ ks, k ≠ j := fun k hk e => by
  have hp : (ks ++ [j]).Pairwise (· < ·) := by rw [← h]; exact kidsFrom_rise i ns 0
  have := (List.pairwise_append.1 hp).2.2 k hk j (by simp)
  omega

/-- the nodes are others: what does not lead to p is as it was -/
structure Fr (ns ns' : List Nd) (p : Nat) : Prop where
  node : ∀ j, j < ns.length → j ≠ p → ns'[j]? = ns[j]?
  kids : ∀ j, j < ns.length → j ≠ p → kids ns' j = kids ns j
  tree : ∀ j, j < ns.length → ¬ Anc ns j p → treeT ns' j = treeT ns j
  len : ns.length ≤ ns'.length
theorem fr_of {ns ns' : List Nd} (h : ordered ns) (h' : ordered ns') {p : Nat} (hlen : ns.length ≤ ns'.length) (hn : ∀ j, j < ns.length → j ≠ p → ns'[j]? = ns[j]?) (hk : ∀ j, j < ns.length → j ≠ p → kids ns' j = kids ns j) : Fr ns ns' p := by
  refine ⟨hn, hk, ?_, hlen⟩
  have : ∀ n j, j < ns.length → ns.length - j ≤ n → ¬ Anc ns j p → treeT ns' j = treeT ns j := by
    intro n
    induction n with
    | zero => intro j h1 h2; omega
    | succ n ih =>
      intro j h1 h2 h3
      have hjp : j ≠ p := fun e => h3 (e ▸ .refl _)
      have e1 := hn j h1 hjp
      rw [List.getElem?_eq_getElem h1, List.getElem?_eq_getElem (by omega)] at e1
      rw [treeT_at h h1, treeT_at h' (i := j) (by omega), hk j h1 hjp, Option.some.inj e1]
      congr 1
      refine List.map_congr_left fun k hkm => ?_
      obtain ⟨x, hx, hxp⟩ := kids_mem hkm
      have hkl := Bk.kids_lt hkm
      have hgt := h _ _ _ hx hxp
      exact ih k hkl (by omega) (fun a => h3 (anc_up hx hxp a))
  intro j hj hna
  exact this _ j hj (Nat.le_refl _) hna
theorem put_ordered {ns : List Nd} (h : ordered ns) {x : Nd} {p : Nat} (hx : x.par = some p) (hp : p < ns.length) : ordered (ns ++ [x]) := by
  intro j y q hj hq
  rcases Nat.lt_or_ge j ns.length with hl | hl
  · rw [List.getElem?_append_left hl] at hj
    exact h j y q hj hq
  · rw [List.getElem?_append_right hl] at hj
    have : j - ns.length < 1 := (List.getElem?_eq_some_iff.1 hj).1
    rw [show j - ns.length = 0 from by omega] at hj
    cases hj
    rw [hx] at hq; cases hq
    omega
theorem fr_put {ns : List Nd} (h : ordered ns) {x : Nd} {p : Nat} (hx : x.par = some p) (hp : p < ns.length) : Fr ns (ns ++ [x]) p :=
  fr_of h (put_ordered h hx hp) (by simp) (fun j hj _ => List.getElem?_append_left hj) (fun j _ hjp => by
    rw [Bk.kids_snoc, if_neg (fun e => hjp (by rw [hx] at e; exact (Option.some.inj e).symm)), List.append_nil])
theorem text_ordered {ns : List Nd} (h : ordered ns) (p : Nat) (t : List UInt8) : ordered (Bk.setText ns p t) := by
  intro j y q hj hq
  unfold Bk.setText at hj
  rw [List.getElem?_modify] at hj
  cases hn : ns[j]? with
  | none => rw [hn] at hj; cases hj
  | some z =>
    rw [hn] at hj
    refine h j z q hn ?_
    simp only [Option.map_eq_map, Option.map_some, Option.some.injEq] at hj
    subst hj
    split at hq <;> exact hq
theorem fr_text {ns : List Nd} (h : ordered ns) (p : Nat) (t : List UInt8) : Fr ns (Bk.setText ns p t) p :=
  fr_of h (text_ordered h p t) (by rw [Bk.setText_len]; exact Nat.le_refl _) (fun j _ hjp => by simp [Bk.setText, show p ≠ j from fun e => hjp e.symm]) (fun j _ _ => Bk.kids_text ns p t j)

/-- a container's node -/
def Own (ns : List Nd) (i : Nat) (c : Cn) : Prop := ∃ x, ns[i]? = some x ∧ x.kind = c.kind ∧ x.level = 0 ∧ x.text = [] ∧ x.info = [] ∧ x.line = c.line
/-- a container's closed blocks -/
def Closed (ns : List Nd) (ks : List Nat) (c : Cn) : Prop := c.all = ks.map (treeT ns) ∧
  match c.lst with
  | some (s, _, is) => is ≠ [] ∧ ∃ ks' L x, ks = ks' ++ [L] ∧ ns[L]? = some x ∧ x.kind = 2 ∧ x.sign = s
  | none => ∀ ks' L x, ks = ks' ++ [L] → ns[L]? = some x → x.kind ≠ 2
/-- a container within another one -/
def Link (ns : List Nd) (i : Nat) (c : Cn) (j : Nat) (d : Cn) : Prop :=
  (d.kind = 1 ∧ ∃ ks, kids ns i = ks ++ [j] ∧ Closed ns ks c) ∨
  (d.kind = 3 ∧ ∃ ks L x is, kids ns i = ks ++ [L] ∧ ns[L]? = some x ∧ x.kind = 2 ∧ x.level = 0 ∧ x.text = [] ∧ x.info = [] ∧ x.sign = d.sign ∧ kids ns L = is ++ [j] ∧
    ((is = [] ∧ x.line = d.line ∧ Closed ns ks c ∧ ∀ s ln js, c.lst = some (s, ln, js) → s ≠ d.sign) ∨ (is ≠ [] ∧ c.lst = some (d.sign, x.line, is.map (treeT ns)) ∧ c.kids = ks.map (treeT ns))))
def num : List Box → Nat
  | [] => 0
  | b :: _ => b.n
/-- the open containers, the innermost first, and the row -/
def Up (ns : List Nd) : List Box → List Cn → Prop
  | [], [c] => c.kind = 0 ∧ Own ns 0 c
  | b :: bs, d :: c :: o => Own ns b.n d ∧ (d.kind = 1 ∧ b.col = none ∨ d.kind = 3 ∧ b.col = some d.col) ∧ Link ns (num bs) c b.n d ∧ Up ns bs (c :: o)
  | _, _ => False
theorem closed_frame {ns ns' : List Nd} {p i j : Nat} (h : ordered ns) (hf : Fr ns ns' p) (ha : Anc ns j p) {ks : List Nat} (hk : kids ns i = ks ++ [j]) {c : Cn} (hc : Closed ns ks c) : Closed ns' ks c := by
  obtain ⟨y, hy, hyp⟩ := kids_mem (by rw [hk]; simp : j ∈ kids ns i)
  have hna : ∀ k ∈ ks, ¬ Anc ns k p ∧ k < ns.length ∧ k ≠ p := fun k hkm => by
    obtain ⟨x, hx, hxp⟩ := kids_mem (by rw [hk]; simp [hkm] : k ∈ kids ns i)
    have h1 : ¬ Anc ns k p := fun a => kids_last_ne hk k hkm (anc_sib h hx hxp hy hyp a ha)
    exact ⟨h1, (List.getElem?_eq_some_iff.1 hx).1, fun e => h1 (e ▸ .refl _)⟩
  refine ⟨?_, ?_⟩
  · rw [hc.1]
    exact List.map_congr_left fun k hkm => (hf.tree k (hna k hkm).2.1 (hna k hkm).1).symm
  · have h2 := hc.2
    cases hl : c.lst with
    | none =>
      rw [hl] at h2
      intro ks' L x e hx
      have hm : L ∈ ks := by rw [e]; simp
      rw [hf.node L (hna L hm).2.1 (hna L hm).2.2] at hx
      exact h2 ks' L x e hx
    | some q =>
      rw [hl] at h2
      obtain ⟨s, ln, is⟩ := q
      obtain ⟨h0, ks', L, x, e, hx, h3⟩ := h2
      have hm : L ∈ ks := by rw [e]; simp
      exact ⟨h0, ks', L, x, e, by rw [hf.node L (hna L hm).2.1 (hna L hm).2.2]; exact hx, h3⟩
theorem own_frame {ns ns' : List Nd} {i : Nat} {c : Cn} (h : Own ns i c) (he : ns'[i]? = ns[i]?) : Own ns' i c := by
  obtain ⟨x, hx, h1⟩ := h
  exact ⟨x, he.trans hx, h1⟩
theorem own_lt {ns : List Nd} {i : Nat} {c : Cn} (h : Own ns i c) : i < ns.length := by
  obtain ⟨x, hx, _⟩ := h
  exact (List.getElem?_eq_some_iff.1 hx).1
theorem up_own {ns : List Nd} {bs : List Box} {c : Cn} {o : List Cn} (h : Up ns bs (c :: o)) : Own ns (num bs) c := by
  cases bs with
  | nil =>
    cases o with
    | nil => exact h.2
    | cons a b => cases h
  | cons b bs =>
    cases o with
    | nil => cases h
    | cons a o => exact h.1
theorem link_up {ns : List Nd} {i j p : Nat} {c d : Cn} (h : Link ns i c j d) (a : Anc ns j p) : Anc ns i p := by
  rcases h with ⟨_, ks, hk, _⟩ | ⟨_, ks, L, x, is, hk, hx, _, _, _, _, _, hkL, _⟩
  · obtain ⟨y, hy, hyp⟩ := kids_mem (by rw [hk]; simp : j ∈ kids ns i)
    exact anc_up hy hyp a
  · obtain ⟨y, hy, hyp⟩ := kids_mem (by rw [hkL]; simp : j ∈ kids ns L)
    obtain ⟨z, hz, hzp⟩ := kids_mem (by rw [hk]; simp : L ∈ kids ns i)
    exact anc_up hz hzp (anc_up hy hyp a)
theorem link_frame {ns ns' : List Nd} {i j p : Nat} {c d : Cn} (ho : ordered ns) (hf : Fr ns ns' p) (h : Link ns i c j d) (a : Anc ns j p) : Link ns' i c j d := by
  have hjp := anc_le ho a
  rcases h with ⟨h1, ks, hk, hc⟩ | ⟨h1, ks, L, x, is, hk, hx, h2, h3, h4, h5, h6, hkL, h7⟩
  · obtain ⟨y, hy, hyp⟩ := kids_mem (by rw [hk]; simp : j ∈ kids ns i)
    have hij := ho _ _ _ hy hyp
    have hjl := (List.getElem?_eq_some_iff.1 hy).1
    exact .inl ⟨h1, ks, by rw [hf.kids i (by omega) (by omega)]; exact hk, closed_frame ho hf a hk hc⟩
  · obtain ⟨y, hy, hyp⟩ := kids_mem (by rw [hkL]; simp : j ∈ kids ns L)
    obtain ⟨z, hz, hzp⟩ := kids_mem (by rw [hk]; simp : L ∈ kids ns i)
    have hLj := ho _ _ _ hy hyp
    have hiL := ho _ _ _ hz hzp
    have hjl := (List.getElem?_eq_some_iff.1 hy).1
    have aL := anc_up hy hyp a
    have hna : ∀ i' ks' l', kids ns i' = ks' ++ [l'] → Anc ns l' p → ∀ k ∈ ks', treeT ns' k = treeT ns k := fun i' ks' l' hk' al k hkm => by
      obtain ⟨u, hu, hup⟩ := kids_mem (by rw [hk']; simp [hkm] : k ∈ kids ns i')
      obtain ⟨v, hv, hvp⟩ := kids_mem (by rw [hk']; simp : l' ∈ kids ns i')
      exact hf.tree k (List.getElem?_eq_some_iff.1 hu).1 (fun b => kids_last_ne hk' k hkm (anc_sib ho hu hup hv hvp b al))
    refine .inr ⟨h1, ks, L, x, is, by rw [hf.kids i (by omega) (by omega)]; exact hk, by rw [hf.node L (by omega) (by omega)]; exact hx, h2, h3, h4, h5, h6, by rw [hf.kids L (by omega) (by omega)]; exact hkL, ?_⟩
    rcases h7 with ⟨e1, e2, hc, e3⟩ | ⟨e1, e2, e3⟩
    · exact .inl ⟨e1, e2, closed_frame ho hf aL hk hc, e3⟩
    · refine .inr ⟨e1, ?_, ?_⟩
      · rw [e2]; exact congrArg (fun t => some (d.sign, x.line, t)) (List.map_congr_left fun k hkm => (hna L is j hkL a k hkm).symm)
      · rw [e3]; exact List.map_congr_left fun k hkm => (hna i ks L hk aL k hkm).symm
theorem up_frame {ns ns' : List Nd} {p : Nat} (ho : ordered ns) (hf : Fr ns ns' p) : ∀ {bs : List Box} {c : Cn} {o : List Cn}, Up ns bs (c :: o) → Anc ns (num bs) p → ns'[num bs]? = ns[num bs]? → Up ns' bs (c :: o)
  | [], c, [], h, _, he => ⟨h.1, own_frame h.2 he⟩
  | [], c, _ :: _, h, _, _ => by cases h
  | b :: bs, d, [], h, _, _ => by cases h
  | b :: bs, d, c :: o, h, a, he => by
    obtain ⟨h1, h2, h3, h4⟩ := h
    refine ⟨own_frame h1 he, h2, link_frame ho hf h3 a, up_frame ho hf h4 (link_up h3 a) ?_⟩
    have hlt : num bs < b.n := by
      rcases h3 with ⟨_, ks, hk, _⟩ | ⟨_, ks, L, x, is, hk, hx, _, _, _, _, _, hkL, _⟩
      · obtain ⟨y, hy, hyp⟩ := kids_mem (by rw [hk]; simp : b.n ∈ kids ns (num bs))
        exact ho _ _ _ hy hyp
      · obtain ⟨y, hy, hyp⟩ := kids_mem (by rw [hkL]; simp : b.n ∈ kids ns L)
        obtain ⟨z, hz, hzp⟩ := kids_mem (by rw [hk]; simp : L ∈ kids ns (num bs))
        have := ho _ _ _ hy hyp
        have := ho _ _ _ hz hzp
        omega
    have hle := anc_le ho a
    exact hf.node _ (own_lt (up_own h4)) (by show num bs ≠ p; have : b.n ≤ p := hle; omega)
theorem up_head {ns : List Nd} {bs : List Box} {c c' : Cn} {o : List Cn} (h : Up ns bs (c :: o)) (e1 : c'.kind = c.kind) (e2 : c'.line = c.line) (e3 : c'.sign = c.sign) (e4 : c'.col = c.col) : Up ns bs (c' :: o) := by
  have ho : ∀ i, Own ns i c → Own ns i c' := fun i hx => by unfold Own at hx ⊢; rw [e1, e2]; exact hx
  cases bs with
  | nil =>
    cases o with
    | nil => exact ⟨by rw [e1]; exact h.1, ho _ h.2⟩
    | cons a b => cases h
  | cons b bs =>
    cases o with
    | nil => cases h
    | cons a o =>
      obtain ⟨h1, h2, h3, h4⟩ := h
      refine ⟨ho _ h1, by rw [e1, e4]; exact h2, ?_, h4⟩
      unfold Link at h3 ⊢
      rw [e1, e2, e3]
      exact h3
/-- the innermost container's own blocks, and the open leaf's node -/
def Tip (ns : List Nd) (i : Nat) (c : Cn) (q : Option Nat) : Prop := ∃ ks, kids ns i = ks ++ q.toList ∧ Closed ns ks c ∧ ∀ p, q = some p → kids ns p = []
theorem tip_tree {ns : List Nd} (ho : ordered ns) {i : Nat} {c : Cn} (h : Tip ns i c none) (hw : Own ns i c) : treeT ns i = c.tree := by
  obtain ⟨ks, hk, hc, _⟩ := h
  obtain ⟨x, hx, e1, e2, e3, e4, e5⟩ := hw
  have hi := (List.getElem?_eq_some_iff.1 hx).1
  rw [List.getElem?_eq_getElem hi] at hx
  rw [treeT_at ho hi, Option.some.inj hx, e1, e2, e3, e4, e5, hk]
  unfold Cn.tree
  rw [hc.1]; simp
/-- a block is closed that is no item -/
theorem tip_add {ns : List Nd} {i p : Nat} {c : Cn} {t : Tree} {ks : List Nat} (hk : kids ns i = ks ++ [p]) (hc : Closed ns ks c) (ht : treeT ns p = t) {x : Nd} (hx : ns[p]? = some x) (h2 : x.kind ≠ 2) : Tip ns i (c.add t) none := by
  refine ⟨ks ++ [p], by simpa using hk, ⟨?_, ?_⟩, fun _ h => by cases h⟩
  · show (c.all ++ [t]) ++ [] = _
    rw [hc.1, List.append_nil, List.map_append, List.map_cons, List.map_nil, ht]
  · intro ks' L y e hy
    have := (List.append_inj' e rfl).2
    cases this
    rw [hx] at hy; cases hy
    exact h2
/-- the innermost container is closed -/
theorem up_pop {ns : List Nd} (ho : ordered ns) {b : Box} {bs : List Box} {d c : Cn} {o : List Cn} (h : Up ns (b :: bs) (d :: c :: o)) (ht : Tip ns b.n d none) : Up ns bs (give d c :: o) ∧ Tip ns (num bs) (give d c) none := by
  obtain ⟨h1, h2, h3, h4⟩ := h
  have htr := tip_tree ho ht h1
  obtain ⟨x1, hx1, ek, _, _, _, _⟩ := h1
  rcases h3 with ⟨e, ks, hk, hc⟩ | ⟨e, ks, L, x, is, hk, hx, f1, f2, f3, f4, f5, hkL, h7⟩
  · have hg : give d c = c.add d.tree := by unfold give; rw [if_neg (by omega)]
    rw [hg]
    exact ⟨up_head h4 rfl rfl rfl rfl, tip_add hk hc htr hx1 (by omega)⟩
  · have hg : give d c = Cn.addItem d c := by unfold give; rw [if_pos e]
    rw [hg]
    have hL := (List.getElem?_eq_some_iff.1 hx).1
    have hLt : treeT ns L = .mk 2 0 [] [] x.line (is.map (treeT ns) ++ [d.tree]) := by
      have hx' := hx
      rw [List.getElem?_eq_getElem hL] at hx'
      rw [treeT_at ho hL, Option.some.inj hx', f1, f2, f3, f4, hkL, List.map_append, List.map_cons, List.map_nil, htr]
    rcases h7 with ⟨rfl, e2, hc, e3⟩ | ⟨e1, e2, e3⟩
    · have hai : Cn.addItem d c = { c with kids := c.all, lst := some (d.sign, d.line, [d.tree]) } := by
        unfold Cn.addItem
        cases hl : c.lst with
        | none => rfl
        | some q => obtain ⟨s, ln, js⟩ := q; exact if_neg (e3 s ln js hl)
      rw [hai]
      refine ⟨up_head h4 rfl rfl rfl rfl, ks ++ [L], by simpa using hk, ⟨?_, ?_⟩, fun _ h => by cases h⟩
      · rw [List.map_append, List.map_cons, List.map_nil, hLt, ← hc.1, ← e2]; rfl
      · exact ⟨by simp, ks, L, x, rfl, hx, f1, f5⟩
    · have hai : Cn.addItem d c = { c with lst := some (d.sign, x.line, is.map (treeT ns) ++ [d.tree]) } := by
        unfold Cn.addItem
        rw [e2]
        exact if_pos rfl
      rw [hai]
      refine ⟨up_head h4 rfl rfl rfl rfl, ks ++ [L], by simpa using hk, ⟨?_, ?_⟩, fun _ h => by cases h⟩
      · rw [List.map_append, List.map_cons, List.map_nil, hLt, ← e3]; rfl
      · exact ⟨by simp, ks, L, x, rfl, hx, f1, f5⟩
theorem up_len {ns : List Nd} : ∀ {bs : List Box} {row : List Cn}, Up ns bs row → row.length = bs.length + 1
  | [], [], h => by cases h
  | [], [_], _ => rfl
  | [], _ :: _ :: _, h => by cases h
  | _ :: _, [], h => by cases h
  | _ :: _, [_], h => by cases h
  | _ :: bs, _ :: c :: o, h => by
    have := up_len (bs := bs) (row := c :: o) h.2.2.2
    simp only [List.length_cons] at this ⊢
    omega
theorem up_pops {ns : List Nd} (ho : ordered ns) : ∀ (n : Nat) {bs : List Box} {c : Cn} {o : List Cn}, n ≤ bs.length → Up ns bs (c :: o) → Tip ns (num bs) c none → ∃ c' o', pops n (c :: o) = c' :: o' ∧ Up ns (bs.drop n) (c' :: o') ∧ Tip ns (num (bs.drop n)) c' none
  | 0, bs, c, o, _, h, ht => ⟨c, o, rfl, h, ht⟩
  | n + 1, [], _, _, hn, _, _ => by simp at hn
  | n + 1, b :: bs, d, [], _, h, _ => by cases h
  | n + 1, b :: bs, d, c :: o, hn, h, ht => by
    obtain ⟨h1, h2⟩ := up_pop ho h ht
    obtain ⟨c', o', e, h3⟩ := up_pops ho n (by simpa using hn) h1 h2
    exact ⟨c', o', e, h3⟩
end Go.Proofs.YtmbcddehacfpgaaGreatDoor.Pb

namespace Go.Proofs.YtmbcddehacfpgaaGreatDoor.Pb
open Go.Proofs.YtmbcddehacfpgaaGreatDoor.Cl (strip)
open Go.Proofs.YtmbcddehacfpgaaGreatDoor.Fn (cl rs emp trim)
open Go.Proofs.YtmbcddehacfpgaaGreatDoor.Bk (Tree Pl Nd Box St treeT kids ordered)

theorem last_eq (st : St) : Bk.last st = num st.opn.reverse := by
  unfold Bk.last
  rcases List.eq_nil_or_concat st.opn with h | ⟨r, b, h⟩
  · rw [h]; rfl
  · rw [h, List.concat_eq_append, List.getLast?_concat, List.reverse_append]; rfl
/-- the leaf that is open, and its node -/
def LeafOf (st : St) (f : Of) (q : Option Nat) : Prop :=
  (f.kind = 0 ∧ st.para = none ∧ st.fence = none ∧ q = none) ∨
  (f.kind = 4 ∧ st.fence = none ∧ f.lines ≠ [] ∧ ∃ p x, q = some p ∧ st.para = some p ∧ st.ns[p]? = some x ∧ x.kind = 4 ∧ x.level = 0 ∧ x.text = joinNl f.lines ∧ x.info = [] ∧ x.line = f.line) ∨
  (f.kind = 7 ∧ st.para = none ∧ st.f = f.op ∧ ∃ p x, q = some p ∧ st.fence = some p ∧ st.ns[p]? = some x ∧ x.kind = 7 ∧ x.level = 0 ∧ x.text = Ln.join f.lines [10] ∧ x.info = f.op.info ∧ x.line = f.line)
structure Sim (i : Nat) (st : St) (r : Rd) : Prop where
  ord : ordered st.ns
  tip : ∃ c o q, r.row = c :: o ∧ Up st.ns st.opn.reverse (c :: o) ∧ Tip st.ns (num st.opn.reverse) c q ∧ LeafOf st r.leaf q
  shut : ∀ p ∈ r.places, p.closed = true
  places : st.places = r.places ++ if r.leaf.kind = 7 ∧ r.row.length = 1 then [⟨r.leaf.line, r.leaf.op, r.leaf.line + 1, 0, false⟩] else []
  going : r.leaf.kind = 7 → r.leaf.ended = false
  time : r.leaf.kind = 7 → r.row.length = 1 → i = r.leaf.line + 1 + r.leaf.lines.length
structure Base (st : St) (r : Rd) : Prop where
  ord : ordered st.ns
  tip : ∃ c o, r.row = c :: o ∧ Up st.ns st.opn.reverse (c :: o) ∧ Tip st.ns (num st.opn.reverse) c none
  leaf : r.leaf = noLeaf
  para : st.para = none
  fence : st.fence = none
  shut : ∀ p ∈ r.places, p.closed = true
  places : st.places = r.places
theorem Base.sim {st : St} {r : Rd} (h : Base st r) (i : Nat) : Sim i st r := by
  obtain ⟨c, o, e, h1, h2⟩ := h.tip
  exact ⟨h.ord, ⟨c, o, none, e, h1, h2, .inl ⟨by rw [h.leaf]; rfl, h.para, h.fence, rfl⟩⟩, h.shut, by rw [h.leaf, h.places]; simp [noLeaf], fun hk => (by rw [h.leaf] at hk; cases hk), fun hk => by rw [h.leaf] at hk; cases hk⟩
theorem closeLeaf_sim {st : St} {r : Rd} {c : Cn} {o : List Cn} {q : Option Nat} {bs : List Box} (ho : ordered st.ns) (hr : r.row = c :: o) (hu : Up st.ns bs (c :: o)) (ht : Tip st.ns (num bs) c q) (hl : LeafOf st r.leaf q) :
    ∃ c', (closeLeaf r).row = c' :: o ∧ Up st.ns bs (c' :: o) ∧ Tip st.ns (num bs) c' none := by
  rcases hl with ⟨h1, _, _, rfl⟩ | ⟨h1, h2, h3, p, x, rfl, h5, hx, g1, g2, g3, g4, g5⟩ | ⟨h1, h2, h3, p, x, rfl, h5, hx, g1, g2, g3, g4, g5⟩
  · refine ⟨c, ?_, hu, ht⟩
    unfold closeLeaf; rw [if_neg (by omega), if_neg (by omega)]; exact hr
  · obtain ⟨ks, hk, hc, hp⟩ := ht
    have hpl := (List.getElem?_eq_some_iff.1 hx).1
    have hpt : treeT st.ns p = paraTree r.leaf := by
      have hx' := hx
      rw [List.getElem?_eq_getElem hpl] at hx'
      rw [treeT_at ho hpl, Option.some.inj hx', g1, g2, g3, g4, g5, hp p rfl]; rfl
    refine ⟨c.add (paraTree r.leaf), ?_, up_head hu rfl rfl rfl rfl, tip_add (by simpa using hk) hc hpt hx (by omega)⟩
    unfold closeLeaf; rw [if_pos h1]; simp [addTip, hr]
  · obtain ⟨ks, hk, hc, hp⟩ := ht
    have hpl := (List.getElem?_eq_some_iff.1 hx).1
    have hpt : treeT st.ns p = fenceTree r.leaf := by
      have hx' := hx
      rw [List.getElem?_eq_getElem hpl] at hx'
      rw [treeT_at ho hpl, Option.some.inj hx', g1, g2, g3, g4, g5, hp p rfl]; rfl
    refine ⟨c.add (fenceTree r.leaf), ?_, up_head hu rfl rfl rfl rfl, tip_add (by simpa using hk) hc hpt hx (by omega)⟩
    unfold closeLeaf; rw [if_neg (by omega), if_pos h1]; simp [addTip, hr]
theorem closeLeaf_leaf (r : Rd) : (closeLeaf r).leaf = noLeaf := by unfold closeLeaf; split; · rfl
                                                                    split <;> rfl
theorem closeLeaf_places {r : Rd} (h : ¬ (r.leaf.kind = 7 ∧ r.row.length = 1)) : (closeLeaf r).places = r.places := by
  have ha : ∀ t, (addTip t r).places = r.places := fun t => by unfold addTip; split <;> rfl
  unfold closeLeaf
  split
  · exact ha _
  · split
    · rename_i h7
      exact if_neg (fun e => h ⟨h7, e⟩)
    · rfl
theorem shut_base {i : Nat} {st : St} {r : Rd} (h : Sim i st r) {k : Nat} (hk : k ≤ st.opn.length) (hn : ¬ (r.leaf.kind = 7 ∧ r.row.length = 1)) : Base (Bk.shut k st) (closeTo (k + 1) r) := by
  obtain ⟨c, o, q, hr, hu, ht, hl⟩ := h.tip
  obtain ⟨c', hr', hu', ht'⟩ := closeLeaf_sim h.ord hr hu ht hl
  have hlen := up_len hu'
  rw [List.length_reverse] at hlen
  have hm : (c' :: o).length - (k + 1) = st.opn.length - k := by omega
  obtain ⟨c2, o2, e2, hu2, ht2⟩ := up_pops h.ord (st.opn.length - k) (by simp) hu' ht'
  have hrev : (st.opn.take k).reverse = st.opn.reverse.drop (st.opn.length - k) := by rw [List.reverse_take]
  refine ⟨h.ord, ⟨c2, o2, ?_, ?_, ?_⟩, closeLeaf_leaf r, rfl, rfl, ?_, ?_⟩
  · show pops _ (closeLeaf r).row = _
    rw [hr', hm]; exact e2
  · show Up st.ns (st.opn.take k).reverse _
    rw [hrev]; exact hu2
  · show Tip st.ns (num (st.opn.take k).reverse) _ _
    rw [hrev]; exact ht2
  · show ∀ p ∈ (closeLeaf r).places, _
    rw [closeLeaf_places hn]; exact h.shut
  · show st.places = (closeLeaf r).places
    rw [closeLeaf_places hn, h.places, if_neg hn, List.append_nil]
theorem closed_tip {ns ns' : List Nd} {i : Nat} (ho : ordered ns) (hf : Fr ns ns' i) {ks : List Nat} (hk : ∀ k ∈ ks, k ∈ kids ns i) {c : Cn} (hc : Closed ns ks c) : Closed ns' ks c := by
  have hna : ∀ k ∈ ks, ¬ Anc ns k i ∧ k < ns.length ∧ k ≠ i := fun k hkm => by
    obtain ⟨x, hx, hxp⟩ := kids_mem (hk k hkm)
    have := ho _ _ _ hx hxp
    exact ⟨fun a => by have := anc_le ho a; omega, (List.getElem?_eq_some_iff.1 hx).1, by omega⟩
  refine ⟨?_, ?_⟩
  · rw [hc.1]
    exact List.map_congr_left fun k hkm => (hf.tree k (hna k hkm).2.1 (hna k hkm).1).symm
  · have h2 := hc.2
    cases hl : c.lst with
    | none =>
      rw [hl] at h2
      intro ks' L x e hx
      have hm : L ∈ ks := by rw [e]; simp
      rw [hf.node L (hna L hm).2.1 (hna L hm).2.2] at hx
      exact h2 ks' L x e hx
    | some q =>
      rw [hl] at h2
      obtain ⟨s, ln, is⟩ := q
      obtain ⟨h0, ks', L, x, e, hx, h3⟩ := h2
      have hm : L ∈ ks := by rw [e]; simp
      exact ⟨h0, ks', L, x, e, by rw [hf.node L (hna L hm).2.1 (hna L hm).2.2]; exact hx, h3⟩
/-- a node more, of the innermost container -/
theorem put_tip {ns : List Nd} (ho : ordered ns) {bs : List Box} {c : Cn} {o : List Cn} (hu : Up ns bs (c :: o)) (ht : Tip ns (num bs) c none) {x : Nd} (hx : x.par = some (num bs)) :
    ordered (ns ++ [x]) ∧ Up (ns ++ [x]) bs (c :: o) ∧ Tip (ns ++ [x]) (num bs) c (some ns.length) := by
  have hlt := own_lt (up_own hu)
  have hf := fr_put ho hx hlt
  have ho' := put_ordered ho hx hlt
  obtain ⟨ks, hk, hc, _⟩ := ht
  refine ⟨ho', up_frame ho hf hu (.refl _) (List.getElem?_append_left hlt), ks, ?_, closed_tip ho hf (fun k hkm => by rw [hk]; simpa using hkm) hc, fun p hp => ?_⟩
  · rw [Bk.kids_snoc, if_pos hx, hk]; simp
  · cases hp
    rw [Bk.kids_snoc, if_neg (by rw [hx]; intro e; have := Option.some.inj e; omega), List.append_nil]
    exact Bk.kids_none (Bk.rooted_of ho) (Nat.le_refl _)
theorem new_node (ns : List Nd) (x : Nd) : (ns ++ [x])[ns.length]? = some x := by simp
theorem add_base {st : St} {r : Rd} (h : Base st r) {kd : Nat} (lv : Nat) (t inf : List UInt8) (h2 : kd ≠ 2) : Base (Bk.add kd lv t inf 0 st) (addTip (.mk kd lv t inf st.line []) r) := by
  obtain ⟨c, o, hr, hu, ht⟩ := h.tip
  obtain ⟨h1, h3, ks, hk, hc, hp⟩ := put_tip h.ord hu ht (x := ⟨some (Bk.last st), kd, lv, t, inf, st.line, 0⟩) (by rw [last_eq])
  have hpl : st.ns.length < (st.ns ++ [(⟨some (Bk.last st), kd, lv, t, inf, st.line, 0⟩ : Nd)]).length := by simp
  have hpt : treeT (st.ns ++ [(⟨some (Bk.last st), kd, lv, t, inf, st.line, 0⟩ : Nd)]) st.ns.length = .mk kd lv t inf st.line [] := by
    have hx' := new_node st.ns ⟨some (Bk.last st), kd, lv, t, inf, st.line, 0⟩
    rw [List.getElem?_eq_getElem hpl] at hx'
    rw [treeT_at h1 hpl, Option.some.inj hx', hp _ rfl]; rfl
  have hpl2 : (addTip (.mk kd lv t inf st.line []) r).places = r.places := by simp [addTip, hr]
  refine ⟨h1, ⟨c.add (.mk kd lv t inf st.line []), o, by simp [addTip, hr], up_head h3 rfl rfl rfl rfl, tip_add hk hc hpt (new_node _ _) h2⟩, ?_, h.para, h.fence, ?_, ?_⟩
  · have := h.leaf; simp only [addTip, hr]; exact this
  · rw [hpl2]; exact h.shut
  · rw [hpl2]; exact h.places
/-- a leaf more, that stays open -/
theorem open_tip {st : St} {r : Rd} (h : Base st r) (kd lv : Nat) (t inf : List UInt8) : ∃ c o, r.row = c :: o ∧ ordered (Bk.add kd lv t inf 0 st).ns ∧ Up (Bk.add kd lv t inf 0 st).ns st.opn.reverse (c :: o) ∧ Tip (Bk.add kd lv t inf 0 st).ns (num st.opn.reverse) c (some st.ns.length) := by
  obtain ⟨c, o, hr, hu, ht⟩ := h.tip
  obtain ⟨h1, h3, h4⟩ := put_tip h.ord hu ht (x := ⟨some (Bk.last st), kd, lv, t, inf, st.line, 0⟩) (by rw [last_eq])
  exact ⟨c, o, hr, h1, h3, h4⟩
theorem fresh_tip {ns : List Nd} {i : Nat} (h : kids ns i = []) (ln : Nat) (o : Option (UInt8 × Nat)) : Tip ns i (fresh ln o) none := by
  refine ⟨[], by simpa using h, ?_, fun _ h => by cases h⟩
  cases o <;> exact ⟨rfl, fun ks' L x e => by simp at e⟩
theorem up_cons {ns : List Nd} {b : Box} {bs : List Box} {d c : Cn} {o : List Cn} (h1 : Own ns b.n d) (h2 : d.kind = 1 ∧ b.col = none ∨ d.kind = 3 ∧ b.col = some d.col) (h3 : Link ns (num bs) c b.n d) (h4 : Up ns bs (c :: o)) : Up ns (b :: bs) (d :: c :: o) := ⟨h1, h2, h3, h4⟩
theorem rev_snoc (l : List Box) (b : Box) : (l ++ [b]).reverse = b :: l.reverse := by simp
theorem push_base {st : St} {r : Rd} (h : Base st r) (op : Option (UInt8 × Nat)) : Base (Bk.push op st) (push (fresh st.line op) r) := by
  obtain ⟨c, o, hr, hu, ht⟩ := h.tip
  have hlt := own_lt (up_own hu)
  cases op with
  | none =>
    obtain ⟨h1, h3, ks, hk, hc, hp⟩ := put_tip h.ord hu ht (x := ⟨some (Bk.last st), 1, 0, [], [], st.line, 0⟩) (by rw [last_eq])
    refine ⟨h1, ⟨fresh st.line none, c :: o, by simp [push, hr], ?_, ?_⟩, h.leaf, h.para, h.fence, h.shut, h.places⟩
    · show Up _ (st.opn ++ [(⟨st.ns.length, none⟩ : Box)]).reverse _
      rw [rev_snoc]
      exact up_cons ⟨_, new_node _ _, rfl, rfl, rfl, rfl, rfl⟩ (.inl ⟨rfl, rfl⟩) (.inl ⟨rfl, ks, hk, hc⟩) h3
    · show Tip _ (num (st.opn ++ [(⟨st.ns.length, none⟩ : Box)]).reverse) _ _
      rw [rev_snoc]
      exact fresh_tip (hp _ rfl) _ _
  | some q =>
    obtain ⟨s, n⟩ := q
    obtain ⟨ks, hk, hc, _⟩ := ht
    have hk' : kids st.ns (num st.opn.reverse) = ks := by simpa using hk
    cases hlo : Bk.listOf st.ns (Bk.last st) s with
    | none =>
      obtain ⟨h1, h3, ks1, hk1, hc1, hp1⟩ := put_tip h.ord hu ⟨ks, hk, hc, fun _ h => by cases h⟩ (x := ⟨some (Bk.last st), 2, 0, [], [], st.line, s⟩) (by rw [last_eq])
      obtain ⟨ns1, hns1⟩ : ∃ ns1, st.ns ++ [(⟨some (Bk.last st), 2, 0, [], [], st.line, s⟩ : Nd)] = ns1 := ⟨_, rfl⟩
      have hL := new_node st.ns ⟨some (Bk.last st), 2, 0, [], [], st.line, s⟩
      have hlen1 : ns1.length = st.ns.length + 1 := by rw [← hns1]; simp
      have hni : num st.opn.reverse < st.ns.length := hlt
      have hks1 : ks1 = ks := by
        rw [Bk.kids_snoc, if_pos (by rw [last_eq]), hk'] at hk1
        exact (List.append_inj' hk1 rfl).1.symm
      rw [hns1] at h1 h3 hk1 hc1 hp1 hL
      have hpush : Bk.push (some (s, n)) st = { st with ns := ns1 ++ [⟨some st.ns.length, 3, 0, [], [], st.line, 0⟩], opn := st.opn ++ [⟨ns1.length, some n⟩] } := by
        show Bk.item s n st = _
        unfold Bk.item; rw [hlo, hlen1, ← hns1]; simp
      rw [hpush]
      have hLl : st.ns.length < ns1.length := by omega
      have hf2 := fr_put h1 (x := ⟨some st.ns.length, 3, 0, [], [], st.line, 0⟩) rfl hLl
      have ho2 := put_ordered h1 (x := ⟨some st.ns.length, 3, 0, [], [], st.line, 0⟩) rfl hLl
      have hkL : Anc ns1 (num st.opn.reverse) st.ns.length := anc_up hL (by rw [last_eq]) (.refl _)
      refine ⟨ho2, ⟨fresh st.line (some (s, n)), c :: o, by simp [push, hr], ?_, ?_⟩, h.leaf, h.para, h.fence, h.shut, h.places⟩
      · show Up _ (st.opn ++ [(⟨ns1.length, some n⟩ : Box)]).reverse _
        rw [rev_snoc]
        refine up_cons ⟨_, new_node _ _, rfl, rfl, rfl, rfl, rfl⟩ (.inr ⟨rfl, rfl⟩) (.inr ⟨rfl, ks1, st.ns.length, ⟨some (Bk.last st), 2, 0, [], [], st.line, s⟩, [], ?_, ?_, rfl, rfl, rfl, rfl, rfl, ?_, .inl ⟨rfl, rfl, ?_, ?_⟩⟩) (up_frame h1 hf2 h3 hkL (List.getElem?_append_left (by omega)))
        · rw [hf2.kids _ (by omega) (by omega)]; simpa using hk1
        · rw [List.getElem?_append_left hLl]; exact hL
        · rw [Bk.kids_snoc, if_pos rfl, hp1 _ rfl]
        · exact closed_frame h1 hf2 (.refl _) (by simpa using hk1) hc1
        · intro s' ln' js' hl e
          subst e
          have h5 := hc.2
          rw [hl] at h5
          obtain ⟨_, ks', L, x, e, hx, f1, f2⟩ := h5
          unfold Bk.listOf at hlo
          rw [last_eq, hk', e, List.getLast?_concat] at hlo
          simp only [hx] at hlo
          rw [if_pos ⟨f1, f2⟩] at hlo
          cases hlo
      · show Tip _ (num (st.opn ++ [(⟨ns1.length, some n⟩ : Box)]).reverse) _ _
        rw [rev_snoc]
        refine fresh_tip ?_ _ _
        show kids _ ns1.length = _
        rw [Bk.kids_snoc, if_neg (by intro e; have := Option.some.inj e; omega), List.append_nil]
        exact Bk.kids_none (Bk.rooted_of h1) (Nat.le_refl _)
    | some L =>
      unfold Bk.listOf at hlo
      rw [last_eq, hk'] at hlo
      rcases List.eq_nil_or_concat ks with e0 | ⟨ks0, L', e0⟩
      · rw [e0] at hlo; cases hlo
      · rw [List.concat_eq_append] at e0
        rw [e0, List.getLast?_concat] at hlo
        simp only at hlo
        cases hx : st.ns[L']? with
        | none => rw [hx] at hlo; cases hlo
        | some x =>
          rw [hx] at hlo
          simp only at hlo
          split at hlo
          · rename_i hx2
            cases hlo
            have hLl := (List.getElem?_eq_some_iff.1 hx).1
            have h5 := hc.2
            cases hl : c.lst with
            | none => rw [hl] at h5; exact absurd hx2.1 (h5 ks0 L x e0 hx)
            | some t =>
              obtain ⟨s', ln, is⟩ := t
              rw [hl] at h5
              obtain ⟨his, ks', L2, x2, e2, hx2', f1, f2⟩ := h5
              rw [e0] at e2
              obtain ⟨rfl, e3⟩ := List.append_inj' e2 rfl
              cases e3
              rw [hx] at hx2'; cases hx2'
              have hall := hc.1
              rw [e0, List.map_append] at hall
              unfold Cn.all at hall
              rw [hl] at hall
              obtain ⟨hck, hcl⟩ := List.append_inj' hall (by simp [listTree])
              have hcl' : Tree.mk 2 0 [] [] ln is = treeT st.ns L := (List.cons.inj hcl).1
              have hx' := hx
              rw [List.getElem?_eq_getElem hLl] at hx'
              rw [treeT_at h.ord hLl, Option.some.inj hx'] at hcl'
              injection hcl' with g1 g2 g3 g4 g5 g6
              have hpush : Bk.push (some (s, n)) st = { st with ns := st.ns ++ [⟨some L, 3, 0, [], [], st.line, 0⟩], opn := st.opn ++ [⟨st.ns.length, some n⟩] } := by
                show Bk.item s n st = _
                unfold Bk.item Bk.listOf
                rw [last_eq, hk', e0, List.getLast?_concat]
                simp only [hx]
                rw [if_pos hx2]
              rw [hpush]
              have hf2 := fr_put h.ord (x := ⟨some L, 3, 0, [], [], st.line, 0⟩) rfl hLl
              have ho2 := put_ordered h.ord (x := ⟨some L, 3, 0, [], [], st.line, 0⟩) rfl hLl
              obtain ⟨z, hz, hzp⟩ := kids_mem (by rw [hk', e0]; simp : L ∈ kids st.ns (num st.opn.reverse))
              have hiL := h.ord _ _ _ hz hzp
              have hkL : Anc st.ns (num st.opn.reverse) L := anc_up hz hzp (.refl _)
              refine ⟨ho2, ⟨fresh st.line (some (s, n)), c :: o, by simp [push, hr], ?_, ?_⟩, h.leaf, h.para, h.fence, h.shut, h.places⟩
              · show Up _ (st.opn ++ [(⟨st.ns.length, some n⟩ : Box)]).reverse _
                rw [rev_snoc]
                refine up_cons ⟨_, new_node _ _, rfl, rfl, rfl, rfl, rfl⟩ (.inr ⟨rfl, rfl⟩) (.inr ⟨rfl, ks0, L, x, kids st.ns L, ?_, ?_, f1, g2.symm, g3.symm, g4.symm, hx2.2, ?_, .inr ⟨?_, ?_, ?_⟩⟩) (up_frame h.ord hf2 hu hkL (List.getElem?_append_left hlt))
                · rw [hf2.kids _ hlt (by omega), hk', e0]
                · rw [List.getElem?_append_left hLl]; exact hx
                · rw [Bk.kids_snoc, if_pos rfl]
                · intro e; rw [e] at g6; exact his g6
                · rw [hl, ← f2, hx2.2, ← g5, g6]
                  exact congrArg (fun t => some (s, ln, t)) (List.map_congr_left fun k hkm => by
                    obtain ⟨y, hy, hyp⟩ := kids_mem hkm
                    have := h.ord _ _ _ hy hyp
                    exact (hf2.tree k (List.getElem?_eq_some_iff.1 hy).1 (fun a => by have := anc_le h.ord a; omega)).symm)
                · rw [hck]
                  exact List.map_congr_left fun k hkm => by
                    obtain ⟨y, hy, hyp⟩ := kids_mem (by rw [hk', e0]; simp [hkm] : k ∈ kids st.ns (num st.opn.reverse))
                    exact (hf2.tree k (List.getElem?_eq_some_iff.1 hy).1 (fun a => kids_last_ne (hk'.trans e0) k hkm (anc_sib h.ord hy hyp hz hzp a (.refl _)))).symm
              · show Tip _ (num (st.opn ++ [(⟨st.ns.length, some n⟩ : Box)]).reverse) _ _
                rw [rev_snoc]
                refine fresh_tip ?_ _ _
                show kids _ st.ns.length = _
                rw [Bk.kids_snoc, if_neg (by intro e; have := Option.some.inj e; omega), List.append_nil]
                exact Bk.kids_none (Bk.rooted_of h.ord) (Nat.le_refl _)
          · cases hlo
end Go.Proofs.YtmbcddehacfpgaaGreatDoor.Pb

namespace Go.Proofs.YtmbcddehacfpgaaGreatDoor.Pb
open Go.Proofs.YtmbcddehacfpgaaGreatDoor.Cl (strip)
open Go.Proofs.YtmbcddehacfpgaaGreatDoor.Fn (cl rs emp trim)
open Go.Proofs.YtmbcddehacfpgaaGreatDoor.Bk (Tree Pl Nd Box St treeT kids ordered)

def Boxed : List Cn → List Box → Prop
  | [], [] => True
  | d :: ds, b :: bs => (d.kind = 1 ∧ b.col = none ∨ d.kind = 3 ∧ b.col = some d.col) ∧ Boxed ds bs
  | _, _ => False
theorem boxed_snoc : ∀ {ds : List Cn} {bs : List Box} {d : Cn} {b : Box}, Boxed ds bs → (d.kind = 1 ∧ b.col = none ∨ d.kind = 3 ∧ b.col = some d.col) → Boxed (ds ++ [d]) (bs ++ [b])
  | [], [], _, _, _, h => ⟨h, trivial⟩
  | [], _ :: _, _, _, h, _ => by cases h
  | _ :: _, [], _, _, h, _ => by cases h
  | _ :: _, _ :: _, _, _, h, h2 => ⟨h.1, boxed_snoc h.2 h2⟩
theorem boxed_take : ∀ {ds : List Cn} {bs : List Box}, Boxed ds bs → ∀ s, take ds s = Bk.take bs s
  | [], [], _, _ => rfl
  | [], _ :: _, h, _ => by cases h
  | _ :: _, [], h, _ => by cases h
  | d :: ds, b :: bs, h, s => by
    have ih := boxed_take h.2
    rw [take, Bk.take]
    rcases h.1 with ⟨h1, h2⟩ | ⟨h1, h2⟩
    · rw [h2]
      unfold Cn.take
      rw [if_pos h1]
      cases Lf.quote s with
      | none => rfl
      | some q => simp only [ih]
    · rw [h2]
      unfold Cn.take
      rw [if_neg (by omega), if_pos h1]
      by_cases he : emp s = true
      · simp only [he, if_true, ih]
      · by_cases hc : cl s < d.col
        · simp only [he, hc, if_true]; rfl
        · simp only [he, hc, if_false, ih]; rfl
theorem up_boxed {ns : List Nd} : ∀ {bs : List Box} {row : List Cn}, Up ns bs row → ∃ c0 tl, row.reverse = c0 :: tl ∧ c0.kind = 0 ∧ Boxed tl bs.reverse
  | [], [], h => by cases h
  | [], [c], h => ⟨c, [], rfl, h.1, trivial⟩
  | [], _ :: _ :: _, h => by cases h
  | _ :: _, [], h => by cases h
  | _ :: _, [_], h => by cases h
  | b :: bs, d :: c :: o, h => by
    obtain ⟨c0, tl, e, h0, hb⟩ := up_boxed h.2.2.2
    refine ⟨c0, tl ++ [d], ?_, h0, ?_⟩
    · rw [List.reverse_cons, e]; rfl
    · rw [List.reverse_cons]; exact boxed_snoc hb h.2.1
theorem up_take {ns : List Nd} {opn : List Box} {row : List Cn} (h : Up ns opn.reverse row) (s : List UInt8) : take row.reverse s = ((Bk.take opn s).1 + 1, (Bk.take opn s).2) := by
  obtain ⟨c0, tl, e, h0, hb⟩ := up_boxed h
  rw [List.reverse_reverse] at hb
  rw [e, take]
  unfold Cn.take
  rw [if_neg (by omega), if_neg (by omega)]
  simp only [boxed_take hb]
theorem bk_take_le : ∀ (l : List Box) (s : List UInt8), (Bk.take l s).1 ≤ l.length
  | [], _ => Nat.le_refl _
  | b :: r, s => by
    unfold Bk.take
    cases b.col with
    | none =>
      cases Lf.quote s with
      | none => simp
      | some q => have := bk_take_le r q; simp only [List.length_cons]; omega
    | some n =>
      simp only
      split
      · have := bk_take_le r s; simp only [List.length_cons]; omega
      · split
        · simp
        · have := bk_take_le r (strip n s); simp only [List.length_cons]; omega
theorem shut_id {st : St} (hp : st.para = none) (hf : st.fence = none) : Bk.shut st.opn.length st = st := by
  unfold Bk.shut
  rw [List.take_length]
  cases st; simp at hp hf ⊢; exact ⟨hp.symm, hf.symm⟩
theorem base_closeTo {st : St} {r : Rd} (h : Base st r) : closeTo (st.opn.length + 1) r = r := by
  obtain ⟨c, o, hr, hu, _⟩ := h.tip
  have hlen := up_len hu
  rw [List.length_reverse] at hlen
  have hl := h.leaf
  have hcl : closeLeaf r = r := by
    unfold closeLeaf
    rw [hl, if_neg (by simp [noLeaf]), if_neg (by simp [noLeaf])]
    cases r; simp at hl ⊢; exact hl.symm
  unfold closeTo
  rw [hcl, hr, hlen, Nat.sub_self]
  cases r; simp at hr ⊢; exact hr.symm
theorem push_len (op : Option (UInt8 × Nat)) (st : St) : (Bk.push op st).opn.length = st.opn.length + 1 ∧ (Bk.push op st).line = st.line := by
  cases op with
  | none => exact ⟨by simp [Bk.push, Bk.quote], rfl⟩
  | some q => obtain ⟨c, n⟩ := q; simp only [Bk.push, Bk.item]; split <;> simp
/-- containers that begin, one in the other -/
theorem begin_base : ∀ (m : Nat) {st : St} {r : Rd} (s : List UInt8), Base st r → ∃ r', begin st.line m (st.opn.length + 1) r s = (r', (Bk.grow m st s).1.opn.length + 1, (Bk.grow m st s).2) ∧ Base (Bk.grow m st s).1 r' ∧ (Bk.grow m st s).1.line = st.line
  | 0, _, r, _, h => ⟨r, rfl, h, rfl⟩
  | m + 1, st, r, s, h => by
    rw [begin, Bk.grow]
    cases ho : Bk.opener s with
    | none => exact ⟨r, rfl, h, rfl⟩
    | some oq =>
      obtain ⟨op, q⟩ := oq
      obtain ⟨hl, hl2⟩ := push_len op st
      simp only
      rw [base_closeTo h]
      obtain ⟨r', e, h1, h2⟩ := begin_base m q (push_base h op)
      rw [hl2, hl] at e
      exact ⟨r', e, h1, h2.trans hl2⟩
theorem closeTo_leaf (k : Nat) (r : Rd) : (closeTo k r).leaf = noLeaf := closeLeaf_leaf r
theorem leaf_base {i : Nat} {st : St} {r : Rd} (s : List UInt8) {k : Nat} {began : Bool} (hi : st.line = i)
    (hb : Base (Bk.shut k st) (closeTo (k + 1) r))
    (hpara : began = true → st.para = none) (hkind : st.para = none → r.leaf.kind ≠ 4)
    (hmore : ∀ p, st.para = some p → began = false → Sim (i + 1) { st with ns := Bk.setText st.ns p (((st.ns[p]?.map (·.text)).getD []) ++ 10 :: trim s) } { r with leaf := { r.leaf with lines := r.leaf.lines ++ [trim s] } } ∧ r.leaf.kind = 4) :
    Sim (i + 1) (Bk.leaf s k began st) (leafLine i (k + 1) s r) := by
  have hln : (Bk.shut k st).line = i := hi
  have hopn : (Bk.shut k st).opn = st.opn.take k := rfl
  unfold Bk.leaf leafLine
  by_cases h1 : emp s = true
  · rw [if_pos h1, if_pos h1]; exact hb.sim _
  rw [if_neg h1, if_neg h1]
  cases Lf.heading s with
  | some p =>
    obtain ⟨n, t⟩ := p
    have := add_base hb (kd := 5) n t [] (by omega)
    rw [hln] at this
    exact this.sim _
  | none =>
    simp only
    by_cases h2 : Lf.brk s = true
    · rw [if_pos h2, if_pos h2]
      have := add_base hb (kd := 6) 0 [] [] (by omega)
      rw [hln] at this
      exact this.sim _
    rw [if_neg h2, if_neg h2]
    cases hbg : Fn.begins s with
    | some f =>
      simp only
      obtain ⟨c, o, hr, ho, hu, ht⟩ := open_tip hb 7 0 [] f.info
      have hlen := up_len hu
      rw [List.length_reverse, hopn] at hlen
      refine ⟨ho, ⟨c, o, some st.ns.length, hr, hu, ht, .inr (.inr ⟨rfl, rfl, rfl, st.ns.length, _, rfl, rfl, new_node _ _, rfl, rfl, rfl, rfl, hln⟩)⟩, hb.shut, ?_, fun _ => rfl, fun _ _ => ?_⟩
      · show (if (st.opn.take k).isEmpty = true then st.places ++ [⟨st.line, f, st.line + 1, 0, false⟩] else st.places) = (closeTo (k + 1) r).places ++ _
        have hp : st.places = (closeTo (k + 1) r).places := hb.places
        show _ = _ ++ if 7 = 7 ∧ (closeTo (k + 1) r).row.length = 1 then _ else _
        rw [hr, hlen, hp, hi]
        cases ht9 : st.opn.take k with
        | nil => simp
        | cons a b => simp
      · simp
    | none =>
      simp only
      have hpar : Sim (i + 1) { Bk.add 4 0 (trim s) [] 0 (Bk.shut k st) with para := some st.ns.length } { closeTo (k + 1) r with leaf := ⟨4, i, [trim s], noOp, false⟩ } := by
        obtain ⟨c, o, hr, ho, hu, ht⟩ := open_tip hb 4 0 (trim s) []
        refine ⟨ho, ⟨c, o, some st.ns.length, hr, hu, ht, .inr (.inl ⟨rfl, rfl, by simp, st.ns.length, _, rfl, rfl, new_node _ _, rfl, rfl, rfl, rfl, hln⟩)⟩, hb.shut, ?_, fun h => (by cases h), fun h => by cases h⟩
        have hp : st.places = (closeTo (k + 1) r).places := hb.places
        show st.places = (closeTo (k + 1) r).places ++ _
        rw [hp]; simp
      cases hpa : st.para with
      | none =>
        rw [if_neg (hkind hpa)]
        exact hpar
      | some p =>
        cases began with
        | true => rw [hpara rfl] at hpa; cases hpa
        | false =>
          obtain ⟨h5, h6⟩ := hmore p hpa rfl
          rw [if_pos h6]
          rw [hpa] at h5
          exact h5
theorem sim_text {i : Nat} {st : St} {r : Rd} (h : Sim i st r) (hi : st.line = i) (s : List UInt8) : Sim (i + 1) (Bk.text s st) (takeLine i s r) := by
  obtain ⟨c, o, q, hr, hu, ht, hl⟩ := h.tip
  have hlen := up_len hu
  rw [List.length_reverse] at hlen
  have htk := up_take (by rw [← hr] at hu; exact hu : Up st.ns st.opn.reverse r.row) s
  have htl := (bk_take_le st.opn s)
  obtain ⟨K, hK⟩ : ∃ K, (Bk.take st.opn s).1 = K := ⟨_, rfl⟩
  obtain ⟨R, hR⟩ : ∃ R, (Bk.take st.opn s).2 = R := ⟨_, rfl⟩
  unfold takeLine Bk.text
  rw [htk, hK, hR]
  rw [hK] at htl
  simp only
  have hrl : r.row.length = st.opn.length + 1 := by rw [hr]; exact hlen
  rw [hrl]
  -- text that goes on with a leaf
  have hmore : ∀ (p : Nat) (x : Nd) (t : List UInt8) (f' : Of), q = some p → st.ns[p]? = some x → LeafOf { st with ns := Bk.setText st.ns p t } f' (some p) → f'.kind = r.leaf.kind → f'.line = r.leaf.line → f'.op = r.leaf.op → f'.ended = r.leaf.ended → f'.lines.length = r.leaf.lines.length + 1 → Sim (i + 1) { st with ns := Bk.setText st.ns p t } { r with leaf := f' } := by
    intro p x t f' hq hx hlf e1 e2 e3 e5 e4
    subst hq
    obtain ⟨ks, hk, hc, hp⟩ := ht
    have hf := fr_text h.ord p t
    obtain ⟨y, hy, hyp⟩ := kids_mem (by rw [hk]; simp : p ∈ kids st.ns (num st.opn.reverse))
    have hlt := h.ord _ _ _ hy hyp
    have ha : Anc st.ns (num st.opn.reverse) p := anc_up hy hyp (.refl _)
    have hnl := own_lt (up_own hu)
    refine ⟨text_ordered h.ord p t, ⟨c, o, some p, hr, up_frame h.ord hf hu ha (hf.node (num st.opn.reverse) hnl (by omega)), ⟨ks, ?_, closed_frame h.ord hf (.refl _) (by simpa using hk) hc, fun p' hp' => ?_⟩, hlf⟩, h.shut, ?_, fun h1 => e5.trans (h.going (e1 ▸ h1)), ?_⟩
    · show kids (Bk.setText st.ns p t) _ = _
      rw [Bk.kids_text]; exact hk
    · show kids (Bk.setText st.ns p t) _ = _
      rw [Bk.kids_text]; exact hp p' hp'
    · show st.places = _
      rw [h.places]
      simp only [e1, e2, e3]
    · intro h1 h2
      have := h.time (e1 ▸ h1) h2
      show i + 1 = f'.line + 1 + f'.lines.length
      omega
  have hset : ∀ (p : Nat) (x : Nd) (t : List UInt8), st.ns[p]? = some x → (Bk.setText st.ns p t)[p]? = some { x with text := t } := by
    intro p x t hx
    simp [Bk.setText, hx]
  have hbelow : (¬ (r.leaf.kind = 7 ∧ K = st.opn.length)) → Sim (i + 1) (Bk.below R K st) (leafLine i (begin i (41 - (K + 1)) (K + 1) r R).2.1 (begin i (41 - (K + 1)) (K + 1) r R).2.2 (begin i (41 - (K + 1)) (K + 1) r R).1) := by
    intro hn
    have hnp : ¬ (r.leaf.kind = 7 ∧ r.row.length = 1) := fun e => hn ⟨e.1, by have := e.2; omega⟩
    have hb := shut_base h htl hnp
    have hnone : Bk.leaf R K false st = Bk.leaf R K false st := rfl
    have hleaf : Sim (i + 1) (Bk.leaf R K false st) (leafLine i (K + 1) R r) := by
      refine leaf_base R hi hb (fun e => by cases e) (fun e => ?_) (fun p hp _ => ?_)
      · rcases hl with ⟨h1, _⟩ | ⟨h1, _, _, p, x, _, h5, _⟩ | ⟨h1, _⟩
        · omega
        · rw [e] at h5; cases h5
        · omega
      · rcases hl with ⟨_, h1, _⟩ | ⟨h1, h2, h3, p', x, hq, h5, hx, g1, g2, g3, g4, g5⟩ | ⟨_, h1, _⟩
        · rw [h1] at hp; cases hp
        · rw [h5] at hp; cases hp
          refine ⟨?_, h1⟩
          rw [hx]
          exact hmore p x _ _ hq hx (.inr (.inl ⟨h1, h2, by simp, p, _, rfl, h5, hset p x _ hx, g1, g2, by rw [joinNl_snoc _ _ h3, ← g3]; rfl, g4, g5⟩)) rfl rfl rfl rfl (by simp)
        · rw [h1] at hp; cases hp
    unfold Bk.below
    by_cases hk4 : K < 40
    · rw [if_pos hk4, show 41 - (K + 1) = (39 - K) + 1 from by omega, begin]
      cases ho : Bk.opener R with
      | none => exact hleaf
      | some oq =>
        obtain ⟨op, qq⟩ := oq
        simp only
        have hpb := push_base hb op
        obtain ⟨hl1, hl2⟩ := push_len op (Bk.shut K st)
        have hsl : (Bk.shut K st).opn.length = K := by show (st.opn.take K).length = K; rw [List.length_take]; omega
        have hsn : (Bk.shut K st).line = i := hi
        rw [hsl] at hl1
        rw [hsn] at hl2 hpb
        obtain ⟨r', e, h1, h2⟩ := begin_base (39 - K) qq hpb
        rw [hl2, hl1] at e
        rw [e]
        simp only
        obtain ⟨st', hst'⟩ : ∃ st', (Bk.grow (39 - K) (Bk.push op (Bk.shut K st)) qq).1 = st' := ⟨_, rfl⟩
        rw [hst'] at h1 h2 ⊢
        have hb2 : Base (Bk.shut st'.opn.length st') (closeTo (st'.opn.length + 1) r') := by rw [base_closeTo h1, shut_id h1.para h1.fence]; exact h1
        refine leaf_base _ (h2.trans hl2) hb2 (fun _ => h1.para) (fun _ => by rw [h1.leaf]; simp [noLeaf]) (fun p hp _ => by rw [h1.para] at hp; cases hp)
    · rw [if_neg hk4, show 41 - (K + 1) = 0 from by omega]
      exact hleaf
  rcases hl with ⟨h1, h2, h3, hq⟩ | ⟨h1, h2, h3, p, x, hq, h5, hx, g1, g2, g3, g4, g5⟩ | ⟨h1, h2, h4, p, x, hq, h5, hx, g1, g2, g3, g4, g5⟩
  · rw [h3, if_neg (by omega)]
    exact hbelow (by omega)
  · rw [h2, if_neg (by omega)]
    exact hbelow (by omega)
  · rw [h5]
    simp only
    by_cases hka : K = st.opn.length
    · rw [if_pos hka, if_pos ⟨h1, by omega⟩]
      unfold Bk.fenced fenceLine
      by_cases he : Fn.ends st.f.c st.f.n R = true
      · have he' : Fn.ends r.leaf.op.c r.leaf.op.n R = true := by rw [← h4]; exact he
        rw [if_pos he, if_pos he']
        obtain ⟨c', e1, hu', ht'⟩ := closeLeaf_sim (r := { r with leaf := { r.leaf with ended := true } }) (q := some p) h.ord hr hu (hq ▸ ht) (.inr (.inr ⟨h1, h2, h4, p, x, rfl, h5, hx, g1, g2, g3, g4, g5⟩))
        have hpl : (closeLeaf { r with leaf := { r.leaf with ended := true } }).places = if r.row.length = 1 then r.places ++ [({ r.leaf with ended := true } : Of).place] else r.places := by
          unfold closeLeaf
          rw [if_neg (by simp only; omega), if_pos h1]
        have hbase : Base { st with fence := none, places := if st.opn.isEmpty = true then Bk.closeLast st.line true st.places else st.places } (closeLeaf { r with leaf := { r.leaf with ended := true } }) := by
          refine ⟨h.ord, ⟨c', o, e1, hu', ht'⟩, closeLeaf_leaf _, h2, rfl, ?_, ?_⟩
          · rw [hpl]
            split
            · intro y hy
              rcases List.mem_append.1 hy with hy | hy
              · exact h.shut y hy
              · rw [List.mem_singleton.1 hy]; rfl
            · exact h.shut
          · rw [hpl]
            show (if st.opn.isEmpty = true then Bk.closeLast st.line true st.places else st.places) = _
            have hpp := h.places
            by_cases h0 : st.opn.length = 0
            · have ht := h.time h1 (by omega)
              rw [if_pos (by simp [List.eq_nil_of_length_eq_zero h0]), if_pos (by omega), hpp, if_pos ⟨h1, by omega⟩]
              unfold Bk.closeLast
              rw [List.getLast?_concat]
              simp only [List.dropLast_concat]
              rw [hi, ht]; rfl
            · rw [if_neg (by simp; intro e; rw [e] at h0; exact h0 rfl), if_neg (by omega), hpp, if_neg (by omega), List.append_nil]
        exact hbase.sim _
      · have he' : ¬ Fn.ends r.leaf.op.c r.leaf.op.n R = true := by rw [← h4]; exact he
        rw [if_neg he, if_neg he', hx]
        refine hmore p x _ _ hq hx (.inr (.inr ⟨h1, h2, h4, p, _, rfl, h5, hset p x _ hx, g1, g2, ?_, g4, g5⟩)) rfl rfl rfl rfl (by simp)
        show ((some x).map (·.text)).getD [] ++ strip st.f.ind R ++ [10] = Ln.join (r.leaf.lines ++ [strip r.leaf.op.ind R]) [10]
        rw [Ln.join_append, ← g3, h4]
        simp [Ln.join]
    · rw [if_neg hka, if_neg (by omega)]
      exact hbelow (fun e => hka e.2)
theorem sim_lines : ∀ (ls : List (List UInt8)) {i : Nat} {st : St} {r : Rd}, Sim i st r → Sim (i + ls.length) (Bk.lines ls i st) (lines ls i r)
  | [], _, _, _, h => h
  | s :: t, i, st, r, h => by
    have h1 : Sim i { st with line := i } r := ⟨h.ord, h.tip, h.shut, h.places, h.going, h.time⟩
    have := sim_lines t (sim_text h1 rfl s)
    rw [Nat.add_assoc, Nat.add_comm 1] at this
    exact this
theorem sim_start : Sim 0 Bk.start start := by
  have ho : ordered Bk.start.ns := fun j x p hj hp => by
    have hj0 : j < 1 := (List.getElem?_eq_some_iff.1 hj).1
    rw [show j = 0 from by omega] at hj
    cases hj; cases hp
  refine ⟨ho, ⟨_, [], none, rfl, ⟨rfl, _, rfl, rfl, rfl, rfl, rfl, rfl⟩, ⟨[], rfl, ⟨rfl, fun ks' L x e => by simp at e⟩, fun _ h => by cases h⟩, .inl ⟨rfl, rfl, rfl, rfl⟩⟩, fun p hp => (by cases hp), rfl, fun h => (by cases h), fun h => (by cases h)⟩
theorem sim_run (ls : List (List UInt8)) : Sim ls.length (Bk.run ls) (lines ls 0 start) := by
  have := sim_lines ls sim_start
  rwa [Nat.zero_add] at this
/-- the trees are the same -/
theorem tree_same (ls : List (List UInt8)) : tree ls = treeT (Bk.run ls).ns 0 := by
  have h := sim_run ls
  obtain ⟨c, o, q, hr, hu, ht, hl⟩ := h.tip
  obtain ⟨c', hr', hu', ht'⟩ := closeLeaf_sim h.ord hr hu ht hl
  have hlen := up_len hu'
  rw [List.length_reverse] at hlen
  obtain ⟨c2, o2, e2, hu2, ht2⟩ := up_pops h.ord (Bk.run ls).opn.length (by simp) hu' ht'
  rw [List.drop_eq_nil_of_le (by simp)] at hu2 ht2
  have hrow : (read ls).row = c2 :: o2 := by
    show pops ((closeLeaf _).row.length - 1) (closeLeaf _).row = _
    rw [hr', hlen]; exact e2
  unfold tree
  rw [hrow]
  exact (tip_tree h.ord ht2 (up_own hu2)).symm
/-- the places are the same -/
theorem places_same (ls : List (List UInt8)) : (read ls).places = Bk.places ls ls.length := by
  have h := sim_run ls
  have hp := h.places
  unfold Bk.places
  show (closeLeaf (lines ls 0 start)).places = _
  obtain ⟨r, hr⟩ : ∃ r, lines ls 0 start = r := ⟨_, rfl⟩
  obtain ⟨st, hst⟩ : ∃ st, Bk.run ls = st := ⟨_, rfl⟩
  rw [hr] at h hp ⊢
  rw [hst] at h hp ⊢
  by_cases h7 : r.leaf.kind = 7 ∧ r.row.length = 1
  · rw [if_pos h7] at hp
    have hpl : (closeLeaf r).places = r.places ++ [r.leaf.place] := by
      unfold closeLeaf
      rw [if_neg (by omega), if_pos h7.1]
      exact if_pos h7.2
    rw [hpl, hp, List.getLast?_concat]
    simp only [Bool.false_eq_true, if_false]
    unfold Bk.closeLast
    rw [List.getLast?_concat]
    simp only [List.dropLast_concat]
    unfold Of.place
    rw [h.going h7.1, h.time h7.1 h7.2]
  · rw [if_neg h7, List.append_nil] at hp
    rw [closeLeaf_places h7, ← hp]
    rcases List.eq_nil_or_concat st.places with h0 | ⟨l, p, h0⟩
    · rw [h0]; rfl
    · rw [List.concat_eq_append] at h0
      have hc := h.shut p (by rw [← hp, h0]; simp)
      rw [h0, List.getLast?_concat]
      simp only [hc, if_true]
end Go.Proofs.YtmbcddehacfpgaaGreatDoor.Pb
