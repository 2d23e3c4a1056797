/- Plain words for memory, of my own: a slice value whose cells read as a list ('Row'), bytes and texts as lists of bytes. No law is claimed here. Plain mathematics of columns: the blanks and tabs at a text's beginning, a text without its first columns, its width. No program is spoken of here. Bytes of a text, parts of a text, tests of bytes: what the machine's own operations give. No function of the program is spoken of here. Plain mathematics of columns: a text with its tabs as blanks, a text stripped of some columns, and of some more. No program is spoken of here. A struct in a new block: what a load and a store of it want to know, behind what has left it alone. Rows whose elements hold rows themselves: what an element is, is a word of its own. No function of the program is spoken of here. Plain mathematics of fences: runs of a sign, the longest one, a text without the blanks and tabs around it, the line that begins a fence, the line that ends one. No program is spoken of here. Plain mathematics of single lines: headings, breaks, quotes, items. No program is spoken of here. Plain mathematics of blocks: a document's lines one by one, the nodes that come of them in their order, each with its parent's number. No program is spoken of here. Plain mathematics of lines: what ends a line, where the first line of a text lies, all of them. No program is spoken of here. Two rows of the call's own, appended to in turn: they lie apart. Memory of a call's own, part by part: blocks of a struct and rows, each in a block of its own, by keys. No function of the program is spoken of here. A struct's cells, all written, one behind the other. No function of the program is spoken of here. Plain mathematics of blocks, as a row of open containers: each with its closed blocks as trees, the innermost first. No program is spoken of here. Package cols and the document's own answer: one contract for each function that reads a text. The document's own count of signs in a row. Package runes: the kinds of runes, by the program and by the document's own answer: one contract each, for every number of 32 bits. Lines of a part of a text that begins and ends where lines begin. No program is spoken of here. make([]T, n, n): what it gives, whatever n (up to a million), as an equation for a walk. -/
import Derived.Test.YtmmgfoepfapnkaaGreatDoorRows
import Derived.WalkKit
import Derived.WalkSpells
import Derived.WalkLawsBesides
import Derived.Deep.Draws
import Derived.Lib.Hide
import Derived.Lib.AppendStr
import Derived.Handy
import Derived.Laws.ResultCell
import Derived.Maps.AppendAt
import Derived.Laws.OwnMore
namespace Go.Proofs.YtmmgfoepfapnkaaGreatDoor
open Go.RowKit

/-- a byte as a value -/
def bv (b : UInt8) : Value := .int .u8 (b.toNat : Int)
/-- bytes as cells -/
def bcells (l : List UInt8) : List Value := l.map bv
/-- a text: its bytes -/
def bs (l : List UInt8) : ByteArray := ⟨l.toArray⟩
theorem bs_size (l : List UInt8) : (bs l).size = l.length := by simp [bs, ByteArray.size]

theorem bs_toList (l : List UInt8) : (bs l).toList = l := ByteArray.toList_mk l
theorem bs_eq {a b : List UInt8} (h : a = b) : ((bs a).toList == (bs b).toList) = true := by subst h; simp
theorem bs_ne {a b : List UInt8} (h : a ≠ b) : ((bs a).toList == (bs b).toList) = false := by rw [bs_toList, bs_toList]; simpa using h
theorem bs_append (a b : List UInt8) : bs a ++ bs b = bs (a ++ b) := by
  apply ByteArray.ext; simp [bs]
/-- the slice value (A, n, ..) holds the cells xs, all of them in blocks below B -/
def Row (w : World) (B size : Nat) (A : Option Addr) (n : Nat) (xs : List Value) : Prop :=
  xs.length = n * size ∧ (0 < n → ∃ b o, A = some ⟨b, o, none⟩ ∧ b < B ∧ ∀ j u, xs[j]? = some u → w.cell? ⟨b, o + j, none⟩ = some u)

section
variable {w w' : World} {B B' size n : Nat} {A : Option Addr} {xs : List Value}
theorem Row.nil : Row w B size A 0 [] := ⟨by simp, fun h => absurd h (by omega)⟩
theorem Row.keep (h : Row w B size A n xs) (hk : ∀ p : Addr, p.block < B → w'.cell? p = w.cell? p) : Row w' B size A n xs :=
  ⟨h.1, fun hn => by
    obtain ⟨b, o, e, hb, hc⟩ := h.2 hn
    exact ⟨b, o, e, hb, fun j u hu => (hk _ hb).trans (hc j u hu)⟩⟩
theorem Row.more (h : Row w B size A n xs) (hB : B ≤ B') : Row w B' size A n xs :=
  ⟨h.1, fun hn => by
    obtain ⟨b, o, e, hb, hc⟩ := h.2 hn
    exact ⟨b, o, e, by omega, hc⟩⟩
theorem Row.below (h : Row w B size A n xs) (hb : Below B w w') : Row w' B size A n xs := h.keep fun _ hp => hb.cell hp
theorem Row.alloc (h : Row w B size A n xs) (hB : B ≤ w.heap.size) (o : Obj) : Row (w.alloc o) B size A n xs := h.keep fun p hp => World.cell?_alloc_lt w o p (by omega)
theorem Row.own {base : Nat} {e : TypeId} {c : Nat} (h : w.ownsRow base e size (.slice A n c) n xs) : Row w w.heap.size size A n xs := by
  refine ⟨h.1, fun hn => ?_⟩
  rcases h.2 with ⟨_, h0⟩ | ⟨g, cap, cur, hv, _, hg, _, _, _, htake⟩
  · omega
  · have hA : A = some ⟨g, 0, none⟩ := by injection hv
    refine ⟨g, 0, hA, (Array.getElem?_eq_some_iff.1 hg).1, fun j u hu => ?_⟩
    have hc := h.cells (g := g) (by rw [hA]; rfl) j u hu
    have : (⟨g, 0, none⟩ : Addr).add j = ⟨g, 0 + j, none⟩ := by unfold Addr.add; split <;> simp_all
    rwa [this] at hc
/-- one cell of a row of one-cell elements -/
theorem Row.at1 (h : Row w B 1 A n xs) {k : Nat} (hk : k < n) : ∃ b o, A = some ⟨b, o, none⟩ ∧ b < B ∧ ∀ j, (hj : j < n) → w.cell? ⟨b, o + j, none⟩ = some (xs[j]'(by have := h.1; omega)) := by
  obtain ⟨b, o, e, hb, hc⟩ := h.2 (by omega)
  refine ⟨b, o, e, hb, fun j hj => hc j _ ?_⟩
  exact List.getElem?_eq_getElem _
end

/-- what an owned value looks like -/
theorem own_shape {w : World} {base : Nat} {e : TypeId} {size n : Nat} {v : Value} {xs : List Value} (h : w.ownsRow base e size v n xs) : ∃ A c, v = .slice A n c ∧ n ≤ c := by
  rcases h.2 with ⟨rfl, rfl⟩ | ⟨g, cap, cur, rfl, _, _, hn, _⟩
  · exact ⟨none, 0, rfl, by omega⟩
  · exact ⟨_, cap, rfl, hn⟩


/-- an element type's row of the table: slices of type T have elements of type E, of so many cells and bytes -/
structure EI (P : Program) (T E : TypeId) (size bytes : Nat) : Prop where
  ht : P.underlying T = some (.slice E)
  info : ∃ i z, P.info? E = some i ∧ i.zero = some z ∧ i.size = size ∧ i.bytes = bytes ∧ z.cells.size = size
  pos : 0 < size

theorem EI.mk' {P : Program} {T E : TypeId} {z : Value} {size bytes : Nat} (ht : P.underlying T = some (.slice E))
    (h : (P.info? E).map (fun i => (i.zero, i.size, i.bytes)) = some (some z, size, bytes)) (hz : z.cells.size = size) (hp : 0 < size) : EI P T E size bytes := by
  obtain ⟨i, h1, h2, h3, h4⟩ := info_parts h
  exact ⟨ht, ⟨i, z, h1, h2, h3, h4, hz⟩, hp⟩

theorem own_below {w w1 : World} {base : Nat} {e : TypeId} {size n : Nat} {v : Value} {xs : List Value} (h : w.ownsRow base e size v n xs) (hb : Below w.heap.size w w1) : w1.ownsRow base e size v n xs := by
  refine ⟨h.1, ?_⟩
  rcases h.2 with hn | ⟨g, cap, cur, rfl, hbg, hgg, rest⟩
  · exact .inl hn
  · exact .inr ⟨g, cap, cur, rfl, hbg, (hb.block g (Array.getElem?_eq_some_iff.1 hgg).1).trans hgg, rest⟩

theorem below_grown {w w1 w2 : World} {base : Nat} {e : TypeId} {size n : Nat} {v : Value} {xs : List Value} {a : World} (h : Below base a w) (hown : w1.ownsRow base e size v n xs)
    (h1 : Below base w w1) (hg : w1.grownBy w2 v.ownBlock) (hbase : base ≤ w1.heap.size) : Below base a w2 :=
  (h.trans h1).grown hg hbase fun k hk => (hown.lt k hk).1

theorem cells_new (w0 : World) (cs : Array Value) (E : TypeId) {g : Nat} (hg : g = w0.heap.size) : ∀ j u, cs.toList[j]? = some u → (w0.alloc (.cells cs E)).cell? ((⟨g, 0, none⟩ : Addr).add j) = some u := by
  intro j u hu
  have : (⟨g, 0, none⟩ : Addr).add j = ⟨g, j, none⟩ := by unfold Addr.add; split <;> simp_all
  rw [this, World.cell?_alloc_at _ _ _ _ hg]
  simpa using hu

theorem grown_new {w0 w' : World} {o : Obj} {row : Option Nat} (h : (w0.alloc o).grownBy w' row) : w0.grownBy w' row :=
  ⟨h.os, h.tape, h.output, by have := h.size; simp at this; omega, fun i hi hne => (h.block i (by simp; omega) hne).trans (Below.heap_alloc w0 o i hi)⟩
theorem grown_cell {w0 w' : World} {row : Option Nat} (h : w0.grownBy w' row) {p : Addr} (hp : p.block < w0.heap.size) (hne : row ≠ some p.block) : w'.cell? p = w0.cell? p :=
  World.cell?_of_block (h.block p.block hp (fun e => hne e.symm))
/-- an owned row's block is older than the world in which it was owned -/
theorem own_ne {w : World} {base : Nat} {e : TypeId} {size n : Nat} {v : Value} {xs : List Value} (h : w.ownsRow base e size v n xs) {k : Nat} (hk : w.heap.size ≤ k) : v.ownBlock ≠ some k := fun he => by
  have := (h.lt k he).2; omega
theorem own_ne_lt {w : World} {base : Nat} {e : TypeId} {size n : Nat} {v : Value} {xs : List Value} (h : w.ownsRow base e size v n xs) {k : Nat} (hk : k < base) : v.ownBlock ≠ some k := fun he => by
  have := (h.lt k he).1; omega

/-- append of elements that were laid in a new block -/
theorem wpList_app_new {P : Program} {w0 : World} {ops : Array Oper} {rest : List Oper} {o : Oper} {a : Act} {Q : Exit → Act → World → Prop} (hgd : o.guard = none) (s x : Operand) {T : TypeId}
    (ho : o.op = .call { callee := .builtin .append, args := #[s, x], argTypes := #[T, T] })
    {E : TypeId} {size bytes : Nat} (hE : EI P T E size bytes) {base n : Nat} {v : Value} {xs : List Value} (hs : a.eval s = v) (hown : w0.ownsRow base E size v n xs)
    {g k c : Nat} {cs : Array Value} (hx : a.eval x = .slice (some ⟨g, 0, none⟩) k c) (hg : g = w0.heap.size) (hcs : cs.size = k * size) (h1 : ∀ u ∈ cs.toList, u.oneCell' = true)
    (h63 : n + k ≤ 1000000000000) (hbytes : bytes ≤ 100) (hbase : base ≤ w0.heap.size)
    (h : ∀ v' w', w'.ownsRow base E size v' (n + k) (xs ++ cs.toList) → Hid (w0.grownBy w' v.ownBlock) → Below base w0 w' → wpList P ops Q rest (a.put o.dst v') w') :
    wpList P ops Q (o :: rest) a (w0.alloc (.cells cs E)) := by
  obtain ⟨i, z, hi, hz, hs1, hs2, hs3⟩ := hE.info
  refine wpList_append_own _ hgd s x T ho base E i z size bytes hE.ht hi hz hs1 hs2 hs3 hE.pos v n xs hs (hown.alloc _) ⟨g, 0, none⟩ k c cs.toList hx (by simpa using hcs) (cells_new w0 cs E hg) h1
    (by unfold maxLen; omega) (by have := Nat.mul_le_mul h63 hbytes; omega) (by simp; omega) ?_
  intro v' w' hw hgr _
  exact h v' w' hw (grown_new hgr) (below_grown (Below.refl _ _) (hown.alloc _) ((Below.refl _ _).alloc hbase _) hgr (by simp; omega))

/-- the address of what is cut off a slice: one name for it, which the walk does not open -/
def cutA (size : Nat) (A : Option Addr) (c lo : Nat) : Option Addr := if c = lo then A else A.map (·.add (lo * size))

theorem run_cut {P : Program} {T : TypeId} (hT : P.underlying T = some (.slice (P.elem T))) (size : Nat) (hsz : ∀ w, (sizeOf (P.elem T)).run P w = .ok size w) (A : Option Addr) (n c lo hi : Nat) (h1 : lo ≤ hi) (h2 : hi ≤ c) (w : World) :
    (Instr.slice T (.slice A n c) (some (.int .i64 (lo : Int))) (some (.int .i64 (hi : Int))) none).run P w = .ok (.slice (cutA size A c lo) (hi - lo) (c - lo)) w := by
  rw [run_slice_lh w T A n c hT .i64 .i64 lo hi (by omega) (by omega) (by omega), hsz]
  simp [sliced, cutA, Result.andThen]

theorem Row.cut {w : World} {B size n : Nat} {A : Option Addr} {xs : List Value} (h : Row w B size A n xs) {c lo hi : Nat} (h1 : lo ≤ hi) (h2 : hi ≤ n) (h3 : n ≤ c) :
    Row w B size (cutA size A c lo) (hi - lo) ((xs.drop (lo * size)).take ((hi - lo) * size)) := by
  refine ⟨?_, fun hn => ?_⟩
  · have hl := h.1
    have h4 := Nat.mul_le_mul_right size h2
    rw [List.length_take, List.length_drop, hl, Nat.sub_mul]
    omega
  · obtain ⟨b, o, rfl, hb, hc⟩ := h.2 (by omega)
    refine ⟨b, o + lo * size, ?_, hb, fun j u hu => ?_⟩
    · unfold cutA
      rw [if_neg (by omega)]
      simp only [Option.map_some, Addr.add]
      split
      · rename_i h0; rw [h0]; rfl
      · rfl
    · have := hc (lo * size + j) u (by
        rw [List.getElem?_take] at hu
        split at hu
        · rwa [List.getElem?_drop] at hu
        · cases hu)
      rwa [← Nat.add_assoc] at this

/-- what lies from lo up to hi -/
def mid {α : Type} (l : List α) (lo hi : Nat) : List α := (l.drop lo).take (hi - lo)
theorem Row.sub {w : World} {B n : Nat} {A : Option Addr} {l : List UInt8} (h : Row w B 1 A n (bcells l)) {c lo hi : Nat} (h1 : lo ≤ hi) (h2 : hi ≤ n) (h3 : n ≤ c) :
    Row w B 1 (cutA 1 A c lo) (hi - lo) (bcells (mid l lo hi)) := by
  have := h.cut h1 h2 h3
  simpa [bcells, mid, List.map_take, List.map_drop] using this

/-- bytes made a text -/
theorem run_text {P : Program} {w : World} {B n c : Nat} {A : Option Addr} {l : List UInt8} (h : Row w B 1 A n (bcells l)) (src e dst : TypeId) (hs : P.underlying src = some (.slice e)) (he : P.underlying e = some (.int .u8)) (hd : P.underlying dst = some .string) :
    (convert src dst (.slice A n c)).run P w = .ok (.string (bs l)) w := by
  have hn : l.length = n := by have := h.1; simpa [bcells] using this
  rcases A with _ | ad
  · have h0 : n = 0 := by
      rcases Nat.eq_zero_or_pos n with h0 | h0
      · exact h0
      · obtain ⟨b, o, e, _⟩ := h.2 h0; cases e
    subst h0
    have : l = [] := List.eq_nil_of_length_eq_zero hn
    subst this
    rw [run_convert_bytes_nil w src e hs he 0 c dst hd]
    rfl
  · have hstr : (strOfNums (l.map fun b => (b.toNat : Int))) = ⟨l.toArray⟩ := by
      have hid : ((fun n : Int => UInt8.ofNat n.toNat) ∘ fun b : UInt8 => (b.toNat : Int)) = id := by funext b; simp
      simp only [strOfNums, List.map_map, hid, List.map_id_fun, id]
    rcases Nat.eq_zero_or_pos n with h0 | h0
    · subst h0
      have : l = [] := List.eq_nil_of_length_eq_zero hn
      subst this
      obtain ⟨b, o, sp⟩ := ad
      rw [run_convert_bytes_string w src dst e _ 0 c hs he hd, run_bytesToString w _ 0 c [] (by simp [loadCells, loadCellsFrom])]
      rfl
    · obtain ⟨b, o, e, _, hc⟩ := h.2 h0
      cases e
      rw [run_convert_bytes_arg w src _ hs he b o n c (l.map fun b => (b.toNat : Int)) (by simpa using hn) (fun i hi => by
        have hil : i < l.length := by omega
        have := hc i _ (List.getElem?_eq_getElem (by simpa [bcells] using hil))
        rw [this]; simp [bcells, bv, List.getElem?_eq_getElem hil]) dst hd, hstr]
      rfl

/-- texts as cells -/
def scells (l : List (List UInt8)) : List Value := l.map fun s => .string (bs s)

theorem strCells_bs (l : List UInt8) : Lib.strCells (bs l) = bcells l := by simp [Lib.strCells, bcells, bv, bs]

/-- append of a text's bytes -/
theorem wpList_app_text {P : Program} {w : World} {ops : Array Oper} {rest : List Oper} {o : Oper} {a : Act} {Q : Exit → Act → World → Prop} (hgd : o.guard = none) (s x : Operand) {T U : TypeId}
    (ho : o.op = .call { callee := .builtin .append, args := #[s, x], argTypes := #[T, U] })
    {E : TypeId} (hE : EI P T E 1 1) (hEz : (P.info? E).map (fun i => i.zero) = some (some (.int .u8 0))) (hU : P.underlying U = some .string) {base n : Nat} {v : Value} {l : List UInt8} (hs : a.eval s = v) (hown : w.ownsRow base E 1 v n (bcells l))
    {t : List UInt8} (hx : a.eval x = .string (bs t)) (h63 : n + t.length ≤ 1000000000000) (hbase : base ≤ w.heap.size)
    (h : ∀ v' w', w'.ownsRow base E 1 v' (n + t.length) (bcells (l ++ t)) → Hid (w.grownBy w' v.ownBlock) → Below base w w' → wpList P ops Q rest (a.put o.dst v') w') :
    wpList P ops Q (o :: rest) a w := by
  obtain ⟨i, z, hi, hz, hs1, hs2, hs3⟩ := hE.info
  have hzz : i.zero = some (.int .u8 0) := by rw [hi] at hEz; simpa using hEz
  have hsz := bs_size t
  refine Lib.wpList_append_own_string w hgd s x T U ho base E i hE.ht hU hi hzz hs1 hs2 v n (bcells l) hs hown (bs t) hx (by rw [hsz]; unfold maxLen; omega) (by rw [hsz]; omega) hbase ?_
  intro v' w' hw hgr _
  rw [hsz, strCells_bs] at hw
  exact h v' w' (by simpa [bcells] using hw) hgr (below_grown (Below.refl _ _) hown (Below.refl _ _) hgr hbase)

theorem own_base {w : World} {b0 b1 : Nat} {e : TypeId} {size n : Nat} {v : Value} {xs : List Value} (h : w.ownsRow b1 e size v n xs) (hb : b0 ≤ b1) : w.ownsRow b0 e size v n xs := by
  refine ⟨h.1, ?_⟩
  rcases h.2 with hn | ⟨g, cap, cur, rfl, hbg, rest⟩
  · exact .inl hn
  · exact .inr ⟨g, cap, cur, rfl, Nat.le_trans hb hbg, rest⟩

theorem below_drewN {B : Nat} {a w : World} (h : Below B a w) (n : Nat) : Below B a (w.drewN n) := ⟨h.os, h.tape, h.output, h.size, h.block⟩

theorem ext_trans {w w1 w2 : World} (h : Below w.heap.size w w1) (k : Below w1.heap.size w1 w2) : Below w.heap.size w w2 := h.trans (k.mono h.size)
theorem Row.ext {w w' : World} {size n : Nat} {A : Option Addr} {xs : List Value} (h : Row w w.heap.size size A n xs) (hb : Below w.heap.size w w') : Row w' w'.heap.size size A n xs := (h.below hb).more hb.size

/-- a literal row of one-cell elements in a new block, marked or not -/
theorem Row.fresh (w : World) (E : TypeId) (C : Array Value) (m : Nat × Nat) {n : Nat} {xs : List Value} (hn : C.size = n) (hx : C.toList = xs) :
    Row (w.alloc (.cells C E m)) (w.alloc (.cells C E m)).heap.size 1 (some ⟨w.heap.size, 0, none⟩) n xs := by
  subst hn hx
  refine ⟨by simp, fun _ => ⟨w.heap.size, 0, rfl, by simp, fun j u hu => ?_⟩⟩
  rw [World.cell?_alloc_mark]
  simpa using hu
theorem ext_alloc (w : World) (o : Obj) : Below w.heap.size w (w.alloc o) := (Below.refl _ _).alloc (Nat.le_refl _) _

theorem Row.dr {w : World} {size n : Nat} {A : Option Addr} {xs : List Value} (h : Row w w.heap.size size A n xs) : Row w.drew w.drew.heap.size size A n xs := h
theorem ext_drew (w : World) : Below w.heap.size w w.drew := (Below.refl _ _).drew

theorem own_max {w : World} {base : Nat} {e : TypeId} {size n : Nat} {v : Value} {xs : List Value} (h : w.ownsRow base e size v n xs) : n ≤ 9223372036854775807 := by
  rcases h.2 with ⟨_, h0⟩ | ⟨g, cap, cur, _, _, _, hn, hm, _⟩
  · omega
  · unfold maxLen at hm; omega
end Go.Proofs.YtmmgfoepfapnkaaGreatDoor

namespace Go.Proofs.YtmmgfoepfapnkaaGreatDoor.Cl

def isGap (b : UInt8) : Bool := b == 32 || b == 9
/-- the column behind b, which begins at column c -/
def step (c : Nat) (b : UInt8) : Nat := if b = 9 then c - c % 4 + 4 else c + 1
theorem step_tab (c : Nat) : step c 9 = c - c % 4 + 4 := by simp [step]
theorem step_one {b : UInt8} (c : Nat) (h : b ≠ 9) : step c b = c + 1 := by simp [step, h]
theorem step_le (c : Nat) (b : UInt8) : c < step c b ∧ step c b ≤ c + 4 := by
  unfold step; split
  · have : c % 4 < 4 := Nat.mod_lt _ (by omega)
    omega
  · omega

/-- the blanks and tabs from column c on until n columns are reached: the columns, the bytes -/
def lead (n : Int) : List UInt8 → Nat → Nat × Nat
  | [], c => (c, 0)
  | b :: r, c => if (c : Int) < n ∧ isGap b = true then ((lead n r (step c b)).1, (lead n r (step c b)).2 + 1) else (c, 0)

theorem lead_go {n : Int} {b : UInt8} {c : Nat} (r : List UInt8) (h : (c : Int) < n) (hg : isGap b = true) : lead n (b :: r) c = ((lead n r (step c b)).1, (lead n r (step c b)).2 + 1) := by
  rw [lead, if_pos ⟨h, hg⟩]
theorem lead_full {n : Int} {c : Nat} (l : List UInt8) (h : ¬ (c : Int) < n) : lead n l c = (c, 0) := by
  cases l with
  | nil => rfl
  | cons b r => rw [lead, if_neg (fun k => h k.1)]
theorem lead_word {n : Int} {b : UInt8} {c : Nat} (r : List UInt8) (h : isGap b = false) : lead n (b :: r) c = (c, 0) := by
  rw [lead, if_neg (fun k => by rw [h] at k; exact absurd k.2 (by simp))]

theorem lead_le (n : Int) (l : List UInt8) (c : Nat) : (lead n l c).2 ≤ l.length ∧ c + (lead n l c).2 ≤ (lead n l c).1 ∧ (lead n l c).1 ≤ c + 4 * (lead n l c).2 := by
  induction l generalizing c with
  | nil => simp [lead]
  | cons b r ih =>
    rw [lead]
    have h1 := ih (step c b)
    have h2 := step_le c b
    split
    · simp only [List.length_cons]; omega
    · simp

/-- what stands at place k, begun at column c -/
def fin (n : Int) (l : List UInt8) (k c : Nat) : Nat × Nat := ((lead n (l.drop k) c).1, k + (lead n (l.drop k) c).2)
theorem fin_zero (n : Int) (l : List UInt8) : fin n l 0 0 = lead n l 0 := by simp [fin]
theorem fin_step {n : Int} {l : List UInt8} {k c : Nat} (hk : k < l.length) (hc : (c : Int) < n) (hg : isGap l[k] = true) : fin n l (k + 1) (step c l[k]) = fin n l k c := by
  unfold fin; rw [List.drop_eq_getElem_cons hk, lead_go _ hc hg]; simp only [Prod.mk.injEq, true_and]; omega
theorem fin_full {n : Int} {k c : Nat} (l : List UInt8) (h : ¬ (c : Int) < n) : fin n l k c = (c, k) := by
  unfold fin; rw [lead_full _ h]; rfl
theorem fin_word {n : Int} {l : List UInt8} {k c : Nat} (hk : k < l.length) (hg : isGap l[k] = false) : fin n l k c = (c, k) := by
  unfold fin; rw [List.drop_eq_getElem_cons hk, lead_word _ hg]; rfl
theorem fin_end {n : Int} {l : List UInt8} {k c : Nat} (hk : ¬ k < l.length) : fin n l k c = (c, k) := by
  unfold fin; rw [List.drop_eq_nil_of_le (by omega)]; rfl

/-- without the first n columns -/
def strip (n : Int) (l : List UInt8) : List UInt8 := List.replicate ((lead n l 0).1 - n.toNat) 32 ++ l.drop (lead n l 0).2
theorem lead_neg {n : Int} (l : List UInt8) (h : n ≤ 0) : lead n l 0 = (0, 0) := lead_full l (by omega)
theorem strip_neg {n : Int} (l : List UInt8) (h : n ≤ 0) : strip n l = l := by
  unfold strip; rw [lead_neg l h]; simp
/-- how far past n a tab may lead -/
theorem lead_past (n : Int) (l : List UInt8) (c : Nat) (h : (c : Int) ≤ n + 3) : ((lead n l c).1 : Int) ≤ n + 3 := by
  induction l generalizing c with
  | nil => simpa [lead] using h
  | cons b r ih =>
    rw [lead]
    split
    · rename_i hc
      have h2 := step_le c b
      exact ih (step c b) (by have := hc.1; omega)
    · exact h
theorem strip_len (n : Int) (l : List UInt8) : (strip n l).length ≤ l.length + 3 := by
  by_cases h : n ≤ 0
  · rw [strip_neg l h]; omega
  · have h1 := lead_past n l 0 (by omega)
    unfold strip
    simp only [List.length_append, List.length_replicate, List.length_drop]
    omega

/-- all columns -/
def width : List UInt8 → Nat → Nat
  | [], c => c
  | b :: r, c => width r (step c b)
/-- a number that no column reaches -/
def inf : Int := 9223372036854775807
end Go.Proofs.YtmmgfoepfapnkaaGreatDoor.Cl

namespace Go.Proofs.YtmmgfoepfapnkaaGreatDoor
open Go.RowKit

theorem run_byte {S : List UInt8} {i : Nat} (h : i < S.length) (w : World) :
    (Instr.index 9 (.string (bs S)) (.int .i64 (i : Int))).run Tryz.prog w = .ok (.int .u8 (S[i].toNat : Int)) w := by
  have hs := bs_size S
  rw [run_index_string w 9 (bs S) .i64 (i : Int) Tryz.underlying9, dif_pos ⟨by omega, by omega⟩]
  rfl

theorem byte_eq {b : UInt8} {n : Nat} (hn : n < 256) (h : b = UInt8.ofNat n) : ((b.toNat : Int) == (n : Int)) = true := by
  subst h; simp; omega

theorem byte_ne {b : UInt8} {n : Nat} (hn : n < 256) (h : b ≠ UInt8.ofNat n) : ((b.toNat : Int) == (n : Int)) = false := by
  rw [beq_eq_false_iff_ne]; intro he; apply h
  have : b.toNat = n := by omega
  subst this; simp

/-- the two tests of a blank or a tab -/
theorem gap_tests (b : UInt8) : (((b.toNat : Int) == (32 : Int)) = true ∧ Cl.isGap b = true) ∨ (((b.toNat : Int) == (32 : Int)) = false ∧ ((b.toNat : Int) == (9 : Int)) = true ∧ Cl.isGap b = true) ∨ (((b.toNat : Int) == (32 : Int)) = false ∧ ((b.toNat : Int) == (9 : Int)) = false ∧ Cl.isGap b = false) := by
  by_cases h : b = 32
  · exact .inl ⟨byte_eq (n := 32) (by omega) h, by subst h; rfl⟩
  · have h1 := byte_ne (n := 32) (by omega) h
    by_cases h' : b = 9
    · exact .inr (.inl ⟨h1, byte_eq (n := 9) (by omega) h', by subst h'; rfl⟩)
    · exact .inr (.inr ⟨h1, byte_ne (n := 9) (by omega) h', by simp [Cl.isGap, h, h']⟩)

/-- a text from a place on -/
theorem run_from {S : List UInt8} {i : Nat} (h : i ≤ S.length) (w : World) :
    (Instr.slice 9 (.string (bs S)) (some (.int .i64 (i : Int))) none none).run Tryz.prog w = .ok (.string (bs (S.drop i))) w := by
  have hs := bs_size S
  have he : (bs S).extract i (bs S).size = bs (S.drop i) := by
    apply ByteArray.ext
    simp only [bs, ByteArray.data_extract, List.extract_toArray, List.extract_eq_take_drop]
    rw [List.take_of_length_le (by simp [ByteArray.size])]
  have h1 : (0 : Int) ≤ (i : Int) ∧ (i : Int) ≤ ((bs S).size : Int) := by omega
  simp [Instr.slice, run_underlying Tryz.underlying9, Instr.sliceBounds, run_sliceBound, h1, he, go_sem]

/-- a text up to a place -/
theorem run_upto {S : List UInt8} {i : Nat} (h : i ≤ S.length) (w : World) :
    (Instr.slice 9 (.string (bs S)) none (some (.int .i64 (i : Int))) none).run Tryz.prog w = .ok (.string (bs (S.take i))) w := by
  have hs := bs_size S
  have he : (bs S).extract 0 i = bs (S.take i) := by
    apply ByteArray.ext
    simp only [bs, ByteArray.data_extract, List.extract_toArray, List.extract_eq_take_drop]
    simp
  have h1 : (0 : Int) ≤ (i : Int) ∧ (i : Int) ≤ ((bs S).size : Int) := by omega
  simp [Instr.slice, run_underlying Tryz.underlying9, Instr.sliceBounds, run_sliceBound, h1, he, go_sem]

theorem byte_same {a b : UInt8} (h : a = b) : ((a.toNat : Int) == (b.toNat : Int)) = true := by subst h; simp

theorem byte_diff {a b : UInt8} (h : a ≠ b) : ((a.toNat : Int) == (b.toNat : Int)) = false := by
  rw [beq_eq_false_iff_ne]; intro he; exact h (UInt8.toNat_inj.1 (by omega))

/-- a text from a place to another -/
theorem run_mid {S : List UInt8} {i j : Nat} (h : i ≤ j) (hj : j ≤ S.length) (w : World) :
    (Instr.slice 9 (.string (bs S)) (some (.int .i64 (i : Int))) (some (.int .i64 (j : Int))) none).run Tryz.prog w = .ok (.string (bs (mid S i j))) w := by
  have hs := bs_size S
  have he : (bs S).extract i j = bs (mid S i j) := by
    apply ByteArray.ext
    simp only [bs, ByteArray.data_extract, List.extract_toArray, List.extract_eq_take_drop, mid]
  have hr := run_slice_string (P := Tryz.prog) w 9 (bs S) .i64 .i64 (i : Int) (j : Int) Tryz.underlying9 (by omega) (by omega) (by omega)
  rw [hr, show ((i : Int)).toNat = i from by omega, show ((j : Int)).toNat = j from by omega, he]
theorem run_byte_at {S : List UInt8} {i : Nat} (h : i < S.length) {v : Int} (hv : v = (i : Int)) (w : World) :
    (Instr.index 9 (.string (bs S)) (.int .i64 v)).run Tryz.prog w = .ok (.int .u8 (S[i].toNat : Int)) w := by
  subst hv; exact run_byte h w

theorem text_nil : (bs []).toList.isEmpty = true := by rw [bs_toList]; rfl
theorem text_cons (c : UInt8) (r : List UInt8) : (bs (c :: r)).toList.isEmpty = false := by rw [bs_toList]; rfl
end Go.Proofs.YtmmgfoepfapnkaaGreatDoor

namespace Go.Proofs.YtmmgfoepfapnkaaGreatDoor.Cl

/-- no column of so short a text reaches inf -/
def small (l : List UInt8) (c : Nat) : Prop := c + 4 * l.length < 9223372036854775807

/-- tabs as blanks up to the next stop -/
def fl : List UInt8 → Nat → List UInt8
  | [], _ => []
  | b :: r, c => if b = 9 then List.replicate (4 - c % 4) 32 ++ fl r (c + (4 - c % 4)) else b :: fl r (c + 1)
/-- the blanks and tabs at a text's beginning -/
def gaps : List UInt8 → Nat
  | [] => 0
  | b :: r => if isGap b then gaps r + 1 else 0
theorem gaps_go {b : UInt8} (r : List UInt8) (h : isGap b = true) : gaps (b :: r) = gaps r + 1 := by simp [gaps, h]
theorem gaps_word {b : UInt8} (r : List UInt8) (h : isGap b = false) : gaps (b :: r) = 0 := by simp [gaps, h]
theorem gaps_le (l : List UInt8) : gaps l ≤ l.length := by
  induction l with
  | nil => simp [gaps]
  | cons b r ih => simp only [gaps, List.length_cons]; split <;> omega
theorem gaps_drop (l : List UInt8) (k : Nat) (h : k ≤ gaps l) : gaps (l.drop k) = gaps l - k := by
  induction l generalizing k with
  | nil => simp [gaps]
  | cons b r ih =>
    cases k with
    | zero => simp
    | succ k =>
      cases hg : isGap b with
      | true => rw [gaps_go _ hg] at h ⊢; rw [List.drop_succ_cons, ih k (by omega)]; omega
      | false => rw [gaps_word _ hg] at h; omega
/-- the rest behind the blanks and tabs -/
def rest (l : List UInt8) : List UInt8 := l.drop (gaps l)
end Go.Proofs.YtmmgfoepfapnkaaGreatDoor.Cl

namespace Go.Proofs.YtmmgfoepfapnkaaGreatDoor
open Go.RowKit

/-- a new block, behind what has left it alone -/
theorem blk {w w1 : World} {o : Obj} (hb : Below (w.alloc o).heap.size (w.alloc o) w1) : w1.heap[w.heap.size]? = some o :=
  (hb.block _ (by simp)).trans (heap_alloc_new w o)
theorem blk_cell {w1 : World} {g : Nat} {cs : Array Value} {t : TypeId} {fr : Nat × Nat} (h : w1.heap[g]? = some (.cells cs t fr)) (j : Nat) : w1.cell? ⟨g, j, none⟩ = cs[j]? := by
  simp [World.cell?, h]
theorem blk_free {w1 : World} {g : Nat} {cs : Array Value} {t : TypeId} (h : w1.heap[g]? = some (.cells cs t (0, 0))) (j : Nat) : w1.frozen? ⟨g, j, none⟩ = false := by
  simp [World.frozen?, h]
/-- what a store into a fresh fence wants to know -/
theorem blk_open {w w1 : World} {a b c d : Value} {t : TypeId} (hb : Below (w.alloc (.cells #[a, b, c, d] t)).heap.size (w.alloc (.cells #[a, b, c, d] t)) w1) :
    w1.cell? ⟨w.heap.size, 0, none⟩ = some a ∧ w1.cell? ⟨w.heap.size, 1, none⟩ = some b ∧ w1.cell? ⟨w.heap.size, 2, none⟩ = some c ∧ w1.cell? ⟨w.heap.size, 3, none⟩ = some d ∧
    ∀ j, w1.frozen? ⟨w.heap.size, j, none⟩ = false := by
  have h := blk hb
  exact ⟨blk_cell h 0, blk_cell h 1, blk_cell h 2, blk_cell h 3, blk_free h⟩

theorem blk_done {w w1 : World} {o : Obj} (hb : Below (w.alloc o).heap.size (w.alloc o) w1) (a b c d : Value) :
    Below w.heap.size w ((((w1.setCell ⟨w.heap.size, 0, none⟩ a).setCell ⟨w.heap.size, 1, none⟩ b).setCell ⟨w.heap.size, 2, none⟩ c).setCell ⟨w.heap.size, 3, none⟩ d) :=
  (((((ext_alloc w o).trans (hb.mono (by simp))).setCell (Nat.le_refl _) _).setCell (Nat.le_refl _) _).setCell (Nat.le_refl _) _).setCell (Nat.le_refl _) _

theorem keep {w w1 : World} {g : Nat} {o : Obj} (h : w.heap[g]? = some o) (hb : Below w.heap.size w w1) : w1.heap[g]? = some o ∧ g < w1.heap.size := by
  have hg : g < w.heap.size := (Array.getElem?_eq_some_iff.1 h).1
  have h1 := hb.block g hg
  have hs := hb.size
  exact ⟨h1.trans h, by omega⟩
theorem four {w1 : World} {g : Nat} {a b c d : Value} {t : TypeId} {fr : Nat × Nat} (h : w1.heap[g]? = some (.cells #[a, b, c, d] t fr)) :
    w1.cell? ⟨g, 0, none⟩ = some a ∧ w1.cell? ⟨g, 1, none⟩ = some b ∧ w1.cell? ⟨g, 2, none⟩ = some c ∧ w1.cell? ⟨g, 3, none⟩ = some d :=
  ⟨blk_cell h 0, blk_cell h 1, blk_cell h 2, blk_cell h 3⟩
/-- three results, the first a struct in a variable -/
theorem results_cell_tmp2 {fn : Func} {p u v : Tmp} {ty : TypeId} (h : fn.results = #[.cell p ty, .tmp u, .tmp v]) (tmps : Array Value) (P : Program) (w : World) :
    (results fn tmps).run P w =
      ((asAddr (tmps.getD p undef)).run P w).andThen fun a w₁ => ((loadVar ty a).run P w₁).andThen fun x w₂ => .ok (.tuple #[x, tmps.getD u undef, tmps.getD v undef]) w₂ := by
  simp only [results, h]
  simp [Sem.run_bind, Result.andThen]
theorem blk_two (w : World) (o p : Obj) : ((w.alloc o).alloc p).heap[w.heap.size + 1]? = some p := by
  have := heap_alloc_new (w.alloc o) p
  rwa [show (w.alloc o).heap.size = w.heap.size + 1 from by simp] at this
theorem blk_one (w : World) (o p : Obj) : ((w.alloc o).alloc p).heap[w.heap.size]? = some o := (keep (heap_alloc_new w o) (ext_alloc _ _)).1
theorem three {w1 : World} {g : Nat} {a b c : Value} {t : TypeId} {fr : Nat × Nat} (h : w1.heap[g]? = some (.cells #[a, b, c] t fr)) :
    w1.cell? ⟨g, 0, none⟩ = some a ∧ w1.cell? ⟨g, 1, none⟩ = some b ∧ w1.cell? ⟨g, 2, none⟩ = some c :=
  ⟨blk_cell h 0, blk_cell h 1, blk_cell h 2⟩
end Go.Proofs.YtmmgfoepfapnkaaGreatDoor

namespace Go.Proofs.YtmmgfoepfapnkaaGreatDoor
open Go.RowKit

/-- a row in a block that is allowed -/
def RowE (w : World) (Q : Nat → Prop) (size : Nat) (A : Option Addr) (n : Nat) (xs : List Value) : Prop :=
  xs.length = n * size ∧ (0 < n → ∃ b o, A = some ⟨b, o, none⟩ ∧ Q b ∧ ∀ j u, xs[j]? = some u → w.cell? ⟨b, o + j, none⟩ = some u)
theorem RowE.frame {w w' : World} {Q Q' : Nat → Prop} {size n : Nat} {A : Option Addr} {xs : List Value} (h : RowE w Q size A n xs) (hf : ∀ b, Q b → w'.heap[b]? = w.heap[b]?) (hq : ∀ b, Q b → Q' b) : RowE w' Q' size A n xs := by
  refine ⟨h.1, fun hn => ?_⟩
  obtain ⟨b, o, hA, hb, hc⟩ := h.2 hn
  exact ⟨b, o, hA, hq b hb, fun j u hj => by rw [World.cell?_of_block (hf b hb)]; exact hc j u hj⟩
theorem RowE.row {w : World} {Q : Nat → Prop} {B size n : Nat} {A : Option Addr} {xs : List Value} (h : RowE w Q size A n xs) (hq : ∀ b, Q b → b < B) : Row w B size A n xs := h.frame (fun _ _ => rfl) hq
theorem Row.q {w : World} {B size n : Nat} {A : Option Addr} {xs : List Value} (h : Row w B size A n xs) : RowE w (fun b => b < B) size A n xs := h
theorem own_q {w : World} {base : Nat} {e : TypeId} {size n c : Nat} {A : Option Addr} {xs : List Value} (h : w.ownsRow base e size (.slice A n c) n xs) : RowE w (fun b => base ≤ b ∧ b < w.heap.size) size A n xs := by
  refine ⟨h.1, fun hn => ?_⟩
  obtain ⟨b, o, e1, hb, hc⟩ := (Row.own h).2 hn
  exact ⟨b, o, e1, ⟨(h.lt b (by rw [e1]; rfl)).1, hb⟩, hc⟩

/-- element by element -/
def Els {E : Type} (P : E → List Value → Prop) : List E → List (List Value) → Prop
  | [], css => css = []
  | x :: r, css => ∃ c0 cr, css = c0 :: cr ∧ P x c0 ∧ Els P r cr
section
variable {E : Type} {P Q : E → List Value → Prop}
theorem Els.mono (hpq : ∀ x cs, P x cs → Q x cs) : ∀ {xs : List E} {css : List (List Value)}, Els P xs css → Els Q xs css
  | [], _, h => h
  | _ :: _, _, ⟨c0, cr, h1, h2, h3⟩ => ⟨c0, cr, h1, hpq _ _ h2, Els.mono hpq h3⟩
theorem Els.snoc : ∀ {xs : List E} {css : List (List Value)} {x : E} {cs : List Value}, Els P xs css → P x cs → Els P (xs ++ [x]) (css ++ [cs])
  | [], _, x, cs, h, h2 => by
    have e : _ = [] := h
    subst e
    exact ⟨cs, [], rfl, h2, rfl⟩
  | y :: r, _, x, cs, ⟨c0, cr, h1, h3, h4⟩, h2 => by
    subst h1
    exact ⟨c0, cr ++ [cs], rfl, h3, Els.snoc h4 h2⟩
theorem Els.at : ∀ {xs : List E} {css : List (List Value)}, Els P xs css → ∀ {k : Nat} (hk : k < xs.length), ∃ cs, css[k]? = some cs ∧ P xs[k] cs
  | [], _, _, k, hk => by simp at hk
  | _ :: _, _, ⟨c0, cr, h1, h2, h3⟩, k, hk => by
    subst h1
    match k, hk with
    | 0, _ => exact ⟨c0, rfl, h2⟩
    | k + 1, hk =>
      obtain ⟨cs, h4, h5⟩ := Els.at h3 (k := k) (by simpa using hk)
      exact ⟨cs, by simpa using h4, by simpa using h5⟩
variable {size : Nat}
theorem Els.cell (hsz : ∀ x cs, P x cs → cs.length = size) : ∀ {xs : List E} {css : List (List Value)}, Els P xs css → ∀ {k : Nat} {cs : List Value} {j : Nat} {u : Value}, css[k]? = some cs → cs[j]? = some u → css.flatten[k * size + j]? = some u
  | [], _, h, k, cs, j, u, h1, _ => by have e : _ = [] := h; rw [e] at h1; simp at h1
  | _ :: _, _, ⟨c0, cr, h1, h2, h3⟩, k, cs, j, u, h4, h5 => by
    subst h1
    have hl := hsz _ _ h2
    match k with
    | 0 =>
      simp only [List.getElem?_cons_zero, Option.some.injEq] at h4
      subst h4
      have hj : j < c0.length := (List.getElem?_eq_some_iff.1 h5).1
      rw [List.flatten_cons, Nat.zero_mul, Nat.zero_add, List.getElem?_append_left hj]
      exact h5
    | k + 1 =>
      simp only [List.getElem?_cons_succ] at h4
      rw [List.flatten_cons, Nat.add_mul, List.getElem?_append_right (by omega), show k * size + 1 * size + j - c0.length = k * size + j from by omega]
      exact Els.cell hsz h3 h4 h5
/-- an element's cells, where they lie -/
theorem Row.els {w : World} {B n : Nat} {A : Option Addr} {xs : List E} {css : List (List Value)} (h : Row w B size A n css.flatten) (he : Els P xs css) (hsz : ∀ x cs, P x cs → cs.length = size) (hn : 0 < n) :
    ∃ b o, A = some ⟨b, o, none⟩ ∧ b < B ∧ ∀ k (hk : k < xs.length), ∃ cs, P xs[k] cs ∧ ∀ j u, cs[j]? = some u → w.cell? ⟨b, o + k * size + j, none⟩ = some u := by
  obtain ⟨b, o, e, hb, hc⟩ := h.2 hn
  refine ⟨b, o, e, hb, fun k hk => ?_⟩
  obtain ⟨cs, h1, h2⟩ := he.at hk
  refine ⟨cs, h2, fun j u hu => ?_⟩
  have := hc (k * size + j) u (he.cell hsz h1 hu)
  rwa [← Nat.add_assoc] at this
end
end Go.Proofs.YtmmgfoepfapnkaaGreatDoor

namespace Go.Proofs.YtmmgfoepfapnkaaGreatDoor.Fn
open Go.Proofs.YtmmgfoepfapnkaaGreatDoor.Cl

/-- how many of c are at the beginning -/
def run (c : UInt8) : List UInt8 → Nat
  | [] => 0
  | b :: r => if b = c then run c r + 1 else 0
theorem run_go {c b : UInt8} (r : List UInt8) (h : b = c) : run c (b :: r) = run c r + 1 := by simp [run, h]
theorem run_stop {c b : UInt8} (r : List UInt8) (h : b ≠ c) : run c (b :: r) = 0 := by simp [run, h]
theorem run_le (c : UInt8) (l : List UInt8) : run c l ≤ l.length := by
  induction l with
  | nil => simp [run]
  | cons b r ih => simp only [run, List.length_cons]; split <;> omega
theorem run_at {c : UInt8} {l : List UInt8} {k : Nat} (hk : k < l.length) (h : l[k] = c) : run c (l.drop k) = run c (l.drop (k + 1)) + 1 := by
  rw [List.drop_eq_getElem_cons hk, run_go _ h]
theorem run_no {c : UInt8} {l : List UInt8} {k : Nat} (hk : k < l.length) (h : l[k] ≠ c) : run c (l.drop k) = 0 := by
  rw [List.drop_eq_getElem_cons hk, run_stop _ h]
theorem run_end {c : UInt8} {l : List UInt8} {k : Nat} (hk : ¬ k < l.length) : run c (l.drop k) = 0 := by
  rw [List.drop_eq_nil_of_le (by omega)]; rfl
/-- the longest run of the sign 96 -/
def lg : List UInt8 → Nat
  | [] => 0
  | b :: r => max (run 96 (b :: r)) (lg r)
/-- the longest of some texts -/
def lgs : List (List UInt8) → Nat
  | [] => 0
  | s :: r => max (lg s) (lgs r)
/-- how many signs a fence needs -/
def long (ls : List (List UInt8)) : Nat := max (lgs ls + 1) 3

/-- without the blanks and tabs ahead -/
def front : List UInt8 → List UInt8
  | [] => []
  | b :: r => if isGap b then front r else b :: r
theorem front_gap {b : UInt8} (r : List UInt8) (h : isGap b = true) : front (b :: r) = front r := by simp [front, h]
theorem front_word {b : UInt8} (r : List UInt8) (h : isGap b = false) : front (b :: r) = b :: r := by simp [front, h]
theorem front_len (l : List UInt8) : (front l).length ≤ l.length := by
  induction l with
  | nil => simp [front]
  | cons b r ih => simp only [front]; split <;> simp only [List.length_cons] <;> omega
/-- without those at the end -/
def back : List UInt8 → List UInt8
  | [] => []
  | b :: r => if back r = [] ∧ isGap b = true then [] else b :: back r
theorem back_gap {b : UInt8} {r : List UInt8} (h : back r = []) (hb : isGap b = true) : back (b :: r) = [] := by simp [back, h, hb]
theorem back_word {b : UInt8} (r : List UInt8) (hb : isGap b = false) : back (b :: r) = b :: back r := by simp [back, hb]
theorem back_more {b : UInt8} {r : List UInt8} (h : back r ≠ []) : back (b :: r) = b :: back r := by simp [back, h]
theorem back_len (l : List UInt8) : (back l).length ≤ l.length := by
  induction l with
  | nil => simp [back]
  | cons b r ih => simp only [back]; split <;> simp only [List.length_cons, List.length_nil] <;> omega
theorem back_snoc_gap (l : List UInt8) {x : UInt8} (h : isGap x = true) : back (l ++ [x]) = back l := by
  induction l with
  | nil => rw [List.nil_append, back_gap rfl h]; rfl
  | cons b r ih => rw [List.cons_append, back, back, ih]
theorem back_snoc_word (l : List UInt8) {x : UInt8} (h : isGap x = false) : back (l ++ [x]) = l ++ [x] := by
  induction l with
  | nil => rw [List.nil_append, back_word _ h]; rfl
  | cons b r ih => rw [List.cons_append, back_more (by rw [ih]; simp), ih]
/-- without those around -/
def trim (l : List UInt8) : List UInt8 := back (front l)
theorem trim_len (l : List UInt8) : (trim l).length ≤ l.length := Nat.le_trans (back_len _) (front_len _)
theorem front_back (l : List UInt8) : front (back l) = back (front l) := by
  induction l with
  | nil => rfl
  | cons b r ih =>
    cases hb : isGap b with
    | true =>
      rw [front_gap _ hb, ← ih]
      by_cases hr : back r = []
      · rw [back_gap hr hb, hr]
      · rw [back_more hr, front_gap _ hb]
    | false => rw [back_word _ hb, front_word _ hb, front_word _ hb, back_word _ hb]

/-- the sign, how many, how far in, the info -/
structure Op where
  c : UInt8
  n : Nat
  ind : Nat
  info : List UInt8

/-- how many columns a line is in, and what is behind them -/
def cl (l : List UInt8) : Nat := (lead inf l 0).1
def rs (l : List UInt8) : List UInt8 := l.drop (lead inf l 0).2

/-- the info behind the signs -/
def info (r : List UInt8) (c : UInt8) : List UInt8 := trim (r.drop (run c r))
/-- the fence that a line begins -/
def begins (l : List UInt8) : Option Op :=
  match rs l with
  | [] => none
  | c :: r => if cl l ≤ 3 ∧ (c = 96 ∨ c = 126) ∧ 3 ≤ run c (c :: r) ∧ ¬ (c = 96 ∧ 96 ∈ info (c :: r) c) then some ⟨c, run c (c :: r), cl l, info (c :: r) c⟩ else none
theorem begins_nil {l : List UInt8} (h : rs l = []) : begins l = none := by unfold begins; rw [h]
theorem begins_yes {l : List UInt8} {c : UInt8} {r : List UInt8} (h : rs l = c :: r) (h1 : cl l ≤ 3) (h2 : c = 96 ∨ c = 126) (h3 : 3 ≤ run c (c :: r)) (h4 : ¬ (c = 96 ∧ 96 ∈ info (c :: r) c)) :
    begins l = some ⟨c, run c (c :: r), cl l, info (c :: r) c⟩ := by unfold begins; rw [h]; simp only; rw [if_pos ⟨h1, h2, h3, h4⟩]
theorem begins_no {l : List UInt8} {c : UInt8} {r : List UInt8} (h : rs l = c :: r) (h1 : ¬ (cl l ≤ 3 ∧ (c = 96 ∨ c = 126) ∧ 3 ≤ run c (c :: r) ∧ ¬ (c = 96 ∧ 96 ∈ info (c :: r) c))) :
    begins l = none := by unfold begins; rw [h]; simp only; rw [if_neg h1]

/-- nothing but blanks and tabs -/
def emp (l : List UInt8) : Bool := decide ((lead inf l 0).2 = l.length)
/-- a line that ends a fence of the sign c, n of it -/
def ends (c : UInt8) (n : Int) (l : List UInt8) : Bool := decide (1 ≤ n ∧ cl l ≤ 3 ∧ n ≤ (run c (rs l) : Int)) && emp ((rs l).drop (run c (rs l)))
theorem ends_no {c : UInt8} {n : Int} {l : List UInt8} (h : ¬ (1 ≤ n ∧ cl l ≤ 3 ∧ n ≤ (run c (rs l) : Int))) : ends c n l = false := by unfold ends; rw [decide_eq_false h]; rfl
theorem ends_is {c : UInt8} {n : Int} {l : List UInt8} (h : 1 ≤ n ∧ cl l ≤ 3 ∧ n ≤ (run c (rs l) : Int)) : ends c n l = emp ((rs l).drop (run c (rs l))) := by unfold ends; rw [decide_eq_true h]; rfl
end Go.Proofs.YtmmgfoepfapnkaaGreatDoor.Fn

namespace Go.Proofs.YtmmgfoepfapnkaaGreatDoor.Lf
open Go.Proofs.YtmmgfoepfapnkaaGreatDoor.Cl (isGap strip)
open Go.Proofs.YtmmgfoepfapnkaaGreatDoor.Fn (cl rs run trim back emp)

/-- the end, or a blank or tab -/
def stop : List UInt8 → Bool
  | [] => true
  | b :: _ => isGap b
/-- without the signs at the end -/
def unhash : List UInt8 → List UInt8
  | [] => []
  | b :: r => if unhash r = [] ∧ b = 35 then [] else b :: unhash r
theorem unhash_snoc_sign (l : List UInt8) : unhash (l ++ [35]) = unhash l := by
  induction l with
  | nil => rfl
  | cons b r ih => rw [List.cons_append, unhash, unhash, ih]
theorem unhash_snoc_word (l : List UInt8) {x : UInt8} (h : x ≠ 35) : unhash (l ++ [x]) = l ++ [x] := by
  induction l with
  | nil => simp [unhash, h]
  | cons b r ih => rw [List.cons_append, unhash, ih, if_neg (by simp)]
theorem unhash_len (l : List UInt8) : (unhash l).length ≤ l.length := by
  induction l with
  | nil => simp [unhash]
  | cons b r ih => simp only [unhash]; split <;> simp only [List.length_cons, List.length_nil] <;> omega
/-- nothing is left, or a blank or tab stands last -/
def closed (u : List UInt8) : Bool := match u.getLast? with
  | none => true
  | some b => isGap b
/-- a heading's text, out of what is behind its signs -/
def title (t : List UInt8) : List UInt8 := if closed (unhash t) = true then back (unhash t) else t
/-- level, text -/
def heading (l : List UInt8) : Option (Nat × List UInt8) :=
  if cl l ≤ 3 ∧ 1 ≤ run 35 (rs l) ∧ run 35 (rs l) ≤ 6 ∧ stop ((rs l).drop (run 35 (rs l))) = true then some (run 35 (rs l), title (trim ((rs l).drop (run 35 (rs l))))) else none
/-- a sign of breaks -/
def ruler (c : UInt8) : Bool := c == 42 || c == 45 || c == 95
/-- the sign, or a blank or tab -/
def along (c b : UInt8) : Bool := b == c || isGap b
def brk (l : List UInt8) : Bool := match rs l with
  | [] => false
  | c :: r => decide (cl l ≤ 3) && ruler c && (c :: r).all (along c) && decide (3 ≤ (c :: r).count c)
theorem brk_nil {l : List UInt8} (h : rs l = []) : brk l = false := by unfold brk; rw [h]
theorem brk_far {l : List UInt8} (h : ¬ cl l ≤ 3) : brk l = false := by unfold brk; split <;> simp [h]
theorem brk_cons {l r : List UInt8} {c : UInt8} (h : rs l = c :: r) (h3 : cl l ≤ 3) : brk l = (ruler c && (c :: r).all (along c) && decide (3 ≤ (c :: r).count c)) := by
  unfold brk; rw [h]; simp [h3]
/-- what is behind the sign -/
def quote (l : List UInt8) : Option (List UInt8) := match rs l with
  | [] => none
  | c :: r => if cl l ≤ 3 ∧ c = 62 then some (strip 1 r) else none
/-- a sign of items -/
def bullet (c : UInt8) : Bool := c == 42 || c == 45 || c == 43
/-- how many columns of blanks belong to the sign -/
def inner (n : Nat) : Nat := if 4 < n then 1 else n
/-- the sign, how far in, what is behind -/
def item (l : List UInt8) : Option (UInt8 × Nat × List UInt8) := match rs l with
  | [] => none
  | c :: r =>
    if cl l ≤ 3 ∧ bullet c = true ∧ brk l = false ∧ stop r = true then
      if emp r = true then some (c, cl l + 2, []) else some (c, cl l + 1 + inner (cl r), strip (inner (cl r)) r)
    else none

theorem title_len (t : List UInt8) : (title t).length ≤ t.length := by
  unfold title
  split
  · have := Fn.back_len (unhash t)
    have := unhash_len t
    omega
  · exact Nat.le_refl _
end Go.Proofs.YtmmgfoepfapnkaaGreatDoor.Lf

namespace Go.Proofs.YtmmgfoepfapnkaaGreatDoor.Bk
open Go.Proofs.YtmmgfoepfapnkaaGreatDoor.Cl (strip)
open Go.Proofs.YtmmgfoepfapnkaaGreatDoor.Fn (cl rs emp trim)

/-- a node: kinds are 0 the document, 1 a quote, 2 a list, 3 an item, 4 a paragraph, 5 a heading, 6 a break, 7 a fence -/
structure Nd where
  par : Option Nat
  kind : Nat
  level : Nat
  text : List UInt8
  info : List UInt8
  line : Nat
  sign : UInt8
/-- an open container: a quote has no column -/
structure Box where
  n : Nat
  col : Option Nat
structure Pl where
  line : Nat
  op : Fn.Op
  first : Nat
  last : Nat
  closed : Bool
structure St where
  ns : List Nd
  opn : List Box
  para : Option Nat
  fence : Option Nat
  f : Fn.Op
  line : Nat
  places : List Pl

/-- the numbers of a node's own nodes, counted from o -/
def kidsFrom (i : Nat) : List Nd → Nat → List Nat
  | [], _ => []
  | x :: r, o => if x.par = some i then o :: kidsFrom i r (o + 1) else kidsFrom i r (o + 1)
def kids (ns : List Nd) (i : Nat) : List Nat := kidsFrom i ns 0
/-- a node's text is another one: whose node it is stays -/
def setText (ns : List Nd) (i : Nat) (t : List UInt8) : List Nd := ns.modify i fun x => { x with text := t }
/-- the innermost open container's number -/
def last (st : St) : Nat := match st.opn.getLast? with
  | none => 0
  | some b => b.n
/-- all but the first k containers are closed, and what is open in them -/
def shut (k : Nat) (st : St) : St := { st with opn := st.opn.take k, para := none, fence := none }
/-- one node more, in the innermost open container -/
def add (kind level : Nat) (text info : List UInt8) (sign : UInt8) (st : St) : St := { st with ns := st.ns ++ [⟨some (last st), kind, level, text, info, st.line, sign⟩] }
/-- does a node's last own node hold items of the sign -/
def listOf (ns : List Nd) (i : Nat) (c : UInt8) : Option Nat := match (kids ns i).getLast? with
  | none => none
  | some k => match ns[k]? with
    | none => none
    | some x => if x.kind = 2 ∧ x.sign = c then some k else none
/-- an item, of its list -/
def item (c : UInt8) (n : Nat) (st : St) : St :=
  match listOf st.ns (last st) c with
  | some l => { st with ns := st.ns ++ [⟨some l, 3, 0, [], [], st.line, 0⟩], opn := st.opn ++ [⟨st.ns.length, some n⟩] }
  | none => { st with ns := st.ns ++ [⟨some (last st), 2, 0, [], [], st.line, c⟩, ⟨some st.ns.length, 3, 0, [], [], st.line, 0⟩], opn := st.opn ++ [⟨st.ns.length + 1, some n⟩] }
/-- the list that an item belongs to, made where there is none -/
def listed (c : UInt8) (st : St) : St × Nat := match listOf st.ns (last st) c with
  | some l => (st, l)
  | none => ({ st with ns := st.ns ++ [⟨some (last st), 2, 0, [], [], st.line, c⟩] }, st.ns.length)
def opened (b : Box) (st : St) : St := { st with opn := st.opn ++ [b] }
def put (x : Nd) (st : St) : St := { st with ns := st.ns ++ [x] }
def quote (st : St) : St := { st with ns := st.ns ++ [⟨some (last st), 1, 0, [], [], st.line, 0⟩], opn := st.opn ++ [⟨st.ns.length, none⟩] }
def push (o : Option (UInt8 × Nat)) (st : St) : St := match o with
  | none => quote st
  | some (c, n) => item c n st
/-- how many containers take a line, and what is left of it -/
def take : List Box → List UInt8 → Nat × List UInt8
  | [], s => (0, s)
  | b :: r, s => match b.col with
    | none => match Lf.quote s with
      | none => (0, s)
      | some q => ((take r q).1 + 1, (take r q).2)
    | some n => if emp s = true then ((take r s).1 + 1, (take r s).2) else if cl s < n then (0, s) else ((take r (strip n s)).1 + 1, (take r (strip n s)).2)
/-- what a line begins: a quote, or an item of a sign and a column; and what is left of it -/
def opener (s : List UInt8) : Option (Option (UInt8 × Nat) × List UInt8) := match Lf.quote s with
  | some q => some (none, q)
  | none => match Lf.item s with
    | some (c, n, r) => some (some (c, n), r)
    | none => none
def grow : Nat → St → List UInt8 → St × List UInt8
  | 0, st, s => (st, s)
  | m + 1, st, s => match opener s with
    | none => (st, s)
    | some (o, r) => grow m (push o st) r
/-- a line that is no line of an open fence, behind its containers -/
def leaf (s : List UInt8) (k : Nat) (began : Bool) (st : St) : St :=
  if emp s = true then shut k st
  else match Lf.heading s with
    | some (n, t) => add 5 n t [] 0 (shut k st)
    | none =>
      if Lf.brk s = true then add 6 0 [] [] 0 (shut k st)
      else match Fn.begins s with
        | some f =>
          { add 7 0 [] f.info 0 (shut k st) with fence := some st.ns.length, f := f, places := if (st.opn.take k).isEmpty = true then st.places ++ [⟨st.line, f, st.line + 1, 0, false⟩] else st.places }
        | none => match st.para, began with
          | some p, false => { st with ns := setText st.ns p (((st.ns[p]?.map (·.text)).getD []) ++ 10 :: trim s) }
          | _, _ => { add 4 0 (trim s) [] 0 (shut k st) with para := some st.ns.length }
/-- the last place ends here -/
def closeLast (n : Nat) (c : Bool) (ps : List Pl) : List Pl := match ps.getLast? with
  | none => ps
  | some p => ps.dropLast ++ [{ p with last := n, closed := c }]
def fenced (s : List UInt8) (i : Nat) (st : St) : St :=
  if Fn.ends st.f.c st.f.n s = true then { st with fence := none, places := if st.opn.isEmpty = true then closeLast st.line true st.places else st.places }
  else { st with ns := setText st.ns i (((st.ns[i]?.map (·.text)).getD []) ++ strip st.f.ind s ++ [10]) }
def below (s : List UInt8) (k : Nat) (st : St) : St :=
  if k < 40 then match opener s with
    | none => leaf s k false st
    | some (o, r) => leaf (grow (39 - k) (push o (shut k st)) r).2 (grow (39 - k) (push o (shut k st)) r).1.opn.length true (grow (39 - k) (push o (shut k st)) r).1
  else leaf s k false st
def text (s : List UInt8) (st : St) : St :=
  match st.fence with
  | some i => if (take st.opn s).1 = st.opn.length then fenced (take st.opn s).2 i st else below (take st.opn s).2 (take st.opn s).1 st
  | none => below (take st.opn s).2 (take st.opn s).1 st
def start : St := ⟨[⟨none, 0, 0, [], [], 0, 0⟩], [], none, none, ⟨0, 0, 0, []⟩, 0, []⟩
def lines : List (List UInt8) → Nat → St → St
  | [], _, st => st
  | s :: r, i, st => lines r (i + 1) (text s { st with line := i })
/-- of a document's lines -/
def run (ls : List (List UInt8)) : St := lines ls 0 start
def places (ls : List (List UInt8)) (n : Nat) : List Pl := match (run ls).places.getLast? with
  | none => (run ls).places
  | some p => if p.closed = true then (run ls).places else closeLast n false (run ls).places

/-- a tree -/
inductive Tree where
  | mk (kind level : Nat) (text info : List UInt8) (line : Nat) (kids : List Tree)
/-- the trees of those of the nodes, counted from o, that are i's own -/
def treesOf : List Nd → Nat → Nat → List Tree
  | [], _, _ => []
  | x :: r, o, i => if x.par = some i then .mk x.kind x.level x.text x.info x.line (treesOf r (o + 1) o) :: treesOf r (o + 1) i else treesOf r (o + 1) i
def tree (ls : List (List UInt8)) : Tree := match (run ls).ns with
  | [] => .mk 0 0 [] [] 0 []
  | x :: r => .mk x.kind x.level x.text x.info x.line (treesOf r 1 0)
end Go.Proofs.YtmmgfoepfapnkaaGreatDoor.Bk

namespace Go.Proofs.YtmmgfoepfapnkaaGreatDoor.Ln

/-- is the byte an end's -/
def isEnd (b : UInt8) : Bool := b == 10 || b == 13

/-- how many bytes at the head of l end a line -/
def endLen : List UInt8 → Nat
  | [] => 0
  | 13 :: 10 :: _ => 2
  | _ :: _ => 1

/-- how many bytes stand ahead of the first end -/
def run : List UInt8 → Nat
  | [] => 0
  | b :: r => if isEnd b then 0 else run r + 1

theorem run_le (l : List UInt8) : run l ≤ l.length := by
  induction l with
  | nil => simp [run]
  | cons b r ih => simp only [run]; split <;> simp <;> omega

theorem endLen_two (r : List UInt8) : endLen (13 :: 10 :: r) = 2 := rfl
theorem endLen_cr {x : UInt8} (r : List UInt8) (h : x ≠ 10) : endLen (13 :: x :: r) = 1 := by
  unfold endLen; split
  · simp_all
  · rename_i heq; injection heq with _ h2; injection h2 with h3 _; exact absurd h3 h
  · rfl
theorem endLen_else {x : UInt8} (r : List UInt8) (h : x ≠ 13) : endLen (x :: r) = 1 := by
  unfold endLen; split
  · simp_all
  · rename_i heq; injection heq with h3 _; exact absurd h3 h
  · rfl

theorem endLen_le (l : List UInt8) : endLen l ≤ l.length := by
  unfold endLen; split <;> simp

theorem endLen_pos {l : List UInt8} (h : 0 < l.length) : 1 ≤ endLen l := by
  match l, h with
  | [b], _ => unfold endLen; split <;> simp_all
  | b :: c :: r, _ => unfold endLen; split <;> simp_all

/-- the first line of what stands from at on: where its text ends -/
def eol (l : List UInt8) (at_ : Nat) : Nat := at_ + run (l.drop at_)
/-- .. and where the next one begins -/
def nxt (l : List UInt8) (at_ : Nat) : Nat := eol l at_ + endLen (l.drop (eol l at_))

theorem eol_le {l : List UInt8} {k : Nat} (h : k ≤ l.length) : eol l k ≤ l.length := by
  have := run_le (l.drop k); rw [List.length_drop] at this; unfold eol; omega
theorem le_eol (l : List UInt8) (k : Nat) : k ≤ eol l k := by unfold eol; omega
theorem nxt_le {l : List UInt8} {k : Nat} (h : k ≤ l.length) : nxt l k ≤ l.length := by
  have h1 := eol_le h
  have := endLen_le (l.drop (eol l k)); rw [List.length_drop] at this; unfold nxt; omega
theorem le_nxt (l : List UInt8) (k : Nat) : eol l k ≤ nxt l k := by unfold nxt; omega
theorem lt_nxt {l : List UInt8} {k : Nat} (h : k < l.length) : k < nxt l k := by
  have h0 := le_eol l k
  by_cases h1 : eol l k < l.length
  · have := endLen_pos (l := l.drop (eol l k)) (by rw [List.length_drop]; omega)
    unfold nxt; omega
  · have h2 := le_nxt l k; omega

theorem run_end {b : UInt8} (r : List UInt8) (h : isEnd b = true) : run (b :: r) = 0 := by simp [run, h]
theorem run_step {b : UInt8} (r : List UInt8) (h : isEnd b = false) : run (b :: r) = run r + 1 := by simp [run, h]
theorem eol_at (l : List UInt8) : eol l l.length = l.length := by simp [eol, run]
theorem eol_end {l : List UInt8} {k : Nat} (hk : k < l.length) (h : isEnd l[k] = true) : eol l k = k := by
  unfold eol; rw [List.drop_eq_getElem_cons hk, run_end _ h]; omega
theorem eol_step {l : List UInt8} {k : Nat} (hk : k < l.length) (h : isEnd l[k] = false) : eol l (k + 1) = eol l k := by
  unfold eol; rw [List.drop_eq_getElem_cons hk, run_step _ h]; omega

/-- the lines from at on -/
def lines (l : List UInt8) (k : Nat) : List (Nat × Nat × Nat) :=
  if _h : k < l.length then (k, eol l k, nxt l k) :: lines l (nxt l k) else []
termination_by l.length - k
decreasing_by have := lt_nxt _h; omega

theorem lines_end {l : List UInt8} {k : Nat} (h : ¬ k < l.length) : lines l k = [] := by rw [lines, dif_neg h]
theorem lines_step {l : List UInt8} {k : Nat} (h : k < l.length) : lines l k = (k, eol l k, nxt l k) :: lines l (nxt l k) := by rw [lines, dif_pos h]

theorem lines_len (l : List UInt8) (k : Nat) : (lines l k).length ≤ l.length - k := by
  rw [lines]
  split
  · rename_i h
    have h1 := lt_nxt h
    have h2 := nxt_le (l := l) (k := k) (by omega)
    have := lines_len l (nxt l k)
    simp only [List.length_cons]; omega
  · simp
termination_by l.length - k
decreasing_by have := lt_nxt (by assumption); omega

/-- all lie within -/
theorem lines_within (l : List UInt8) (k : Nat) : ∀ x ∈ lines l k, x.1 ≤ x.2.1 ∧ x.2.1 ≤ x.2.2 ∧ x.2.2 ≤ l.length := by
  intro x hx
  rw [lines] at hx
  split at hx
  · rename_i h
    rcases List.mem_cons.1 hx with rfl | hx
    · exact ⟨le_eol _ _, le_nxt _ _, nxt_le (by omega)⟩
    · exact lines_within l (nxt l k) x hx
  · simp at hx
termination_by l.length - k
decreasing_by have := lt_nxt (by assumption); omega

/-- the lines' texts -/
def texts (l : List UInt8) (k : Nat) : List (List UInt8) := (lines l k).map fun x => mid l x.1 x.2.1
theorem texts_end {l : List UInt8} {k : Nat} (h : ¬ k < l.length) : texts l k = [] := by simp [texts, lines_end h]
theorem texts_step {l : List UInt8} {k : Nat} (h : k < l.length) : texts l k = mid l k (eol l k) :: texts l (nxt l k) := by simp [texts, lines_step h]
theorem texts_len (l : List UInt8) (k : Nat) : (texts l k).length ≤ l.length - k := by simpa [texts] using lines_len l k

/-- each text and the end -/
def join (ls : List (List UInt8)) (e : List UInt8) : List UInt8 := ls.flatMap fun s => s ++ e
theorem join_take {ls : List (List UInt8)} {k : Nat} (e : List UInt8) (h : k < ls.length) : join (ls.take (k + 1)) e = join (ls.take k) e ++ ls[k] ++ e := by
  rw [List.take_succ_eq_append_getElem h]; simp only [join, List.flatMap_append, List.flatMap_cons, List.flatMap_nil, List.append_nil, List.append_assoc]
theorem join_take_le (ls : List (List UInt8)) (k : Nat) (e : List UInt8) : (join (ls.take k) e).length ≤ (join ls e).length := by
  have h := List.take_append_drop k ls
  have : join ls e = join (ls.take k) e ++ join (ls.drop k) e := by rw [join, join, join, ← List.flatMap_append, h]
  rw [this]; simp
end Go.Proofs.YtmmgfoepfapnkaaGreatDoor.Ln

namespace Go.Proofs.YtmmgfoepfapnkaaGreatDoor
open Go.RowKit

/-- no block of the one is the other's -/
def Apart (a b : Value) : Prop := ∀ g, a.ownBlock = some g → b.ownBlock ≠ some g
/-- where an appended row lies: where it lay, or in a block from B on -/
def At (B : Nat) (v v' : Value) : Prop := ∀ g, v'.ownBlock = some g → v.ownBlock = some g ∨ B ≤ g
end Go.Proofs.YtmmgfoepfapnkaaGreatDoor

namespace Go.Proofs.YtmmgfoepfapnkaaGreatDoor
open Go.RowKit

/-- a struct's block, or a row -/
inductive Part
  | blk (g : Nat) (cs : Array Value) (t : TypeId)
  | row (e : TypeId) (size : Nat) (v : Value) (n : Nat) (xs : List Value)
def Part.holds (w : World) (B : Nat) : Part → Prop
  | .blk g cs t => B ≤ g ∧ w.heap[g]? = some (.cells cs t (0, 0))
  | .row e size v n xs => w.ownsRow B e size v n xs
def Part.block : Part → Option Nat
  | .blk g _ _ => some g
  | .row _ _ v _ _ => v.ownBlock
/-- all parts lie, each in a block of its own -/
structure Hp {K : Type} (w : World) (B : Nat) (m : K → Option Part) : Prop where
  holds : ∀ k a, m k = some a → a.holds w B
  apart : ∀ k k' a a' g, m k = some a → m k' = some a' → a.block = some g → a'.block = some g → k = k'

theorem Part.lt {w : World} {B : Nat} {a : Part} (h : a.holds w B) {g : Nat} (hg : a.block = some g) : B ≤ g ∧ g < w.heap.size := by
  cases a with
  | blk g' cs t =>
    simp only [Part.block, Option.some.injEq] at hg
    subst hg
    exact ⟨h.1, (Array.getElem?_eq_some_iff.1 h.2).1⟩
  | row e size v n xs => exact World.ownsRow.lt (show w.ownsRow B e size v n xs from h) g hg
theorem Part.kept {w w' : World} {B : Nat} {a : Part} (h : a.holds w B) {row : Option Nat} (hg : w.grownBy w' row) (hne : a.block = none ∨ a.block ≠ row) : a.holds w' B := by
  cases a with
  | blk g cs t =>
    refine ⟨h.1, ?_⟩
    rw [hg.block g (Array.getElem?_eq_some_iff.1 h.2).1 (by rcases hne with h | h; · cases h
                                                            · exact h)]
    exact h.2
  | row e size v n xs => exact World.ownsRow.kept (show w.ownsRow B e size v n xs from h) hg hne
theorem grown_ext {w w' : World} (hb : Below w.heap.size w w') (row : Option Nat) : w.grownBy w' row := ⟨hb.os, hb.tape, hb.output, hb.size, fun k hk _ => hb.block k hk⟩
theorem grown_set (w : World) (a : Addr) (v : Value) : w.grownBy (w.setCell a v) (some a.block) := by
  have hb : Below 0 w (w.setCell a v) := (Below.refl 0 w).setCell (Nat.zero_le _) v
  exact ⟨hb.os, hb.tape, hb.output, hb.size, fun k _ hne => Below.heap_setCell _ _ _ _ (fun e => hne (by rw [e]))⟩

section
variable {K : Type} {w w' : World} {B : Nat} {m : K → Option Part}
theorem Hp.ext (h : Hp w B m) (hb : Below w.heap.size w w') : Hp w' B m := by
  refine ⟨fun k a ha => ?_, h.apart⟩
  have := h.holds k a ha
  cases a with
  | blk g cs t => exact ⟨this.1, (hb.block g (Array.getElem?_eq_some_iff.1 this.2).1).trans this.2⟩
  | row e size v n xs => exact own_below (show w.ownsRow B e size v n xs from this) hb
/-- one part is another one: it lies where it lay, or in a new block -/
theorem Hp.put (h : Hp w B m) {m' : K → Option Part} {k : K} {a a' : Part} (hk : m k = some a) (hg : w.grownBy w' a.block) (ha : a'.holds w' B)
    (hat : ∀ g, a'.block = some g → a.block = some g ∨ w.heap.size ≤ g) (hm : ∀ j, j ≠ k → m' j = m j) (hk' : m' k = some a') : Hp w' B m' := by
  refine ⟨fun j b hb => ?_, fun i j b c g hi hj hbi hbj => ?_⟩
  · by_cases hjk : j = k
    · subst hjk; rw [hk'] at hb; cases hb; exact ha
    · rw [hm j hjk] at hb
      refine Part.kept (h.holds j b hb) hg ?_
      cases hbo : b.block with
      | none => exact .inl rfl
      | some g => exact .inr fun he => hjk (h.apart j k b a g hb hk hbo he.symm)
  · by_cases hik : i = k
    · by_cases hjk : j = k
      · rw [hik, hjk]
      · subst hik
        rw [hk'] at hi; cases hi
        rw [hm j hjk] at hj
        rcases hat g hbi with h1 | h1
        · exact h.apart i j a c g hk hj h1 hbj
        · exact absurd (Part.lt (h.holds j c hj) hbj).2 (by omega)
    · by_cases hjk : j = k
      · subst hjk
        rw [hk'] at hj; cases hj
        rw [hm i hik] at hi
        rcases hat g hbj with h1 | h1
        · exact h.apart i j b a g hi hk hbi h1
        · exact absurd (Part.lt (h.holds i b hi) hbi).2 (by omega)
      · rw [hm i hik] at hi; rw [hm j hjk] at hj
        exact h.apart i j b c g hi hj hbi hbj
/-- one part more, in a new block -/
theorem Hp.more (h : Hp w B m) {m' : K → Option Part} {k : K} {a' : Part} (hk : m k = none) (hb : Below w.heap.size w w') (ha : a'.holds w' B)
    (hat : ∀ g, a'.block = some g → w.heap.size ≤ g) (hm : ∀ j, j ≠ k → m' j = m j) (hk' : m' k = some a') : Hp w' B m' := by
  have h' := h.ext hb
  refine ⟨fun j b hb => ?_, fun i j b c g hi hj hbi hbj => ?_⟩
  · by_cases hjk : j = k
    · subst hjk; rw [hk'] at hb; cases hb; exact ha
    · rw [hm j hjk] at hb; exact h'.holds j b hb
  · by_cases hik : i = k
    · by_cases hjk : j = k
      · rw [hik, hjk]
      · subst hik
        rw [hk'] at hi; cases hi
        rw [hm j hjk] at hj
        exact absurd (Part.lt (h.holds j c hj) hbj).2 (by have := hat g hbi; omega)
    · by_cases hjk : j = k
      · subst hjk
        rw [hk'] at hj; cases hj
        rw [hm i hik] at hi
        exact absurd (Part.lt (h.holds i b hi) hbi).2 (by have := hat g hbj; omega)
      · rw [hm i hik] at hi; rw [hm j hjk] at hj
        exact h.apart i j b c g hi hj hbi hbj
/-- a store into a struct -/
theorem Hp.store (h : Hp w B m) {m' : K → Option Part} {k : K} {g j : Nat} {cs : Array Value} {t : TypeId} {v : Value} (hk : m k = some (.blk g cs t))
    (hm : ∀ j, j ≠ k → m' j = m j) (hk' : m' k = some (.blk g (cs.setIfInBounds j v) t)) : Hp (w.setCell ⟨g, j, none⟩ v) B m' := by
  have hh : Part.holds w B (.blk g cs t) := h.holds k _ hk
  exact h.put (a' := .blk g (cs.setIfInBounds j v) t) hk (grown_set w ⟨g, j, none⟩ v) ⟨hh.1, heap_setCell_same w g j cs t v hh.2⟩ (fun _ h => .inl h) hm hk'
theorem Hp.same (h : Hp w B m) {m' : K → Option Part} (hm : ∀ k, m' k = m k) : Hp w B m' := by
  rw [show m' = m from funext hm]; exact h
theorem Hp.base (h : Hp w B m) {k : K} {g : Nat} {cs : Array Value} {t : TypeId} (hk : m k = some (.blk g cs t)) : B ≤ g ∧ g < w.heap.size ∧ w.heap[g]? = some (.cells cs t (0, 0)) := by
  have hh : Part.holds w B (.blk g cs t) := h.holds k _ hk
  exact ⟨hh.1, (Array.getElem?_eq_some_iff.1 hh.2).1, hh.2⟩
theorem Hp.own (h : Hp w B m) {k : K} {e : TypeId} {size n : Nat} {v : Value} {xs : List Value} (hk : m k = some (.row e size v n xs)) : w.ownsRow B e size v n xs := h.holds k _ hk
end

/-- one part in another one's place -/
def upd {K : Type} [DecidableEq K] (m : K → Option Part) (k : K) (a : Part) : K → Option Part := fun j => if j = k then some a else m j
section
variable {K : Type} [DecidableEq K] {w w' : World} {B : Nat} {m : K → Option Part}
theorem upd_same (m : K → Option Part) (k : K) (a : Part) : upd m k a k = some a := if_pos rfl
theorem upd_other (m : K → Option Part) {k j : K} (a : Part) (h : j ≠ k) : upd m k a j = m j := if_neg h
theorem Hp.uput (h : Hp w B m) {k : K} {a : Part} (a' : Part) (hk : m k = some a) (hg : w.grownBy w' a.block) (ha : a'.holds w' B)
    (hat : ∀ g, a'.block = some g → a.block = some g ∨ w.heap.size ≤ g) : Hp w' B (upd m k a') :=
  h.put hk hg ha hat (fun _ hj => upd_other m a' hj) (upd_same m k a')
theorem Hp.umore (h : Hp w B m) {k : K} (a' : Part) (hk : m k = none) (hb : Below w.heap.size w w') (ha : a'.holds w' B)
    (hat : ∀ g, a'.block = some g → w.heap.size ≤ g) : Hp w' B (upd m k a') :=
  h.more hk hb ha hat (fun _ hj => upd_other m a' hj) (upd_same m k a')
theorem Hp.ustore (h : Hp w B m) {k : K} {g : Nat} {cs : Array Value} {t : TypeId} (j : Nat) (v : Value) (hk : m k = some (.blk g cs t)) :
    Hp (w.setCell ⟨g, j, none⟩ v) B (upd m k (.blk g (cs.setIfInBounds j v) t)) :=
  h.store hk (fun _ hj => upd_other m _ hj) (upd_same m k _)
end
theorem Row.take {w : World} {B size n k : Nat} {A : Option Addr} {xs : List Value} (h : Row w B size A n xs) (hk : k ≤ n) : Row w B size A k (xs.take (k * size)) := by
  refine ⟨?_, fun hp => ?_⟩
  · rw [List.length_take, h.1]
    exact Nat.min_eq_left (Nat.mul_le_mul_right size hk)
  · obtain ⟨b, o, hA, hb, hc⟩ := h.2 (by omega)
    refine ⟨b, o, hA, hb, fun j u hj => hc j u ?_⟩
    rw [List.getElem?_take] at hj
    split at hj
    · exact hj
    · cases hj

theorem cell_of {w : World} {g j : Nat} {cs : List Value} {t : TypeId} {fr : Nat × Nat} {v : Value} (h : w.heap[g]? = some (.cells ⟨cs⟩ t fr)) (hj : cs[j]? = some v) : w.cell? ⟨g, j, none⟩ = some v := by
  rw [blk_cell h j]; simpa using hj
/-- a row in a new block -/
theorem Row.freshN (w : World) (E : TypeId) (C : Array Value) {size n : Nat} {xs : List Value} (hn : C.size = n * size) (hx : C.toList = xs) :
    Row (w.alloc (.cells C E)) (w.alloc (.cells C E)).heap.size size (some ⟨w.heap.size, 0, none⟩) n xs := by
  subst hx
  refine ⟨by simpa using hn, fun _ => ⟨w.heap.size, 0, rfl, by simp, fun j u hu => ?_⟩⟩
  rw [blk_cell (heap_alloc_new w _)]
  simpa using hu
/-- append of a row, nil or not; and where it lies then -/
theorem run_app_row_at {P : Program} {w : World} {T ty : TypeId} {E : TypeId} {size bytes : Nat} (hE : EI P T E size bytes) {base n : Nat} {v : Value} {xs : List Value} (hown : w.ownsRow base E size v n xs)
    {B m c : Nat} {A : Option Addr} {news : List Value} (hr : Row w B size A m news) (h1 : ∀ u ∈ news, u.oneCell' = true) (h63 : n + m ≤ 1000000000000) (hbytes : bytes ≤ 100) (hbase : base ≤ w.heap.size) :
    ∃ v' w', (Builtin.append_ #[T, T] ty #[v, .slice A m c]).run P w = .ok v' w' ∧ w'.ownsRow base E size v' (n + m) (xs ++ news) ∧ w.grownBy w' v.ownBlock ∧ At w.heap.size v v' := by
  obtain ⟨i, z, hi, hz, hs1, hs2, hs3⟩ := hE.info
  rcases Nat.eq_zero_or_pos m with h0 | h0
  · subst h0
    have hn : news = [] := List.eq_nil_of_length_eq_zero (by simpa using hr.1)
    subst hn
    refine ⟨v, w, ?_, by simpa using hown, World.grownBy.refl w _, fun _ h => .inl h⟩
    rcases A with _ | ad
    · rcases hown.2 with ⟨rfl, rfl⟩ | ⟨g, cap, cur, rfl, _, _, hnc, _⟩
      · simp [Builtin.append_, run_underlying hE.ht, sizeOf, typeInfo, hi, Builtin.lenOf, Builtin.firstCells]
      · simp [Builtin.append_, run_underlying hE.ht, sizeOf, typeInfo, hi, Builtin.lenOf, Builtin.firstCells, hnc, storeCells]
    · rcases hown.2 with ⟨rfl, rfl⟩ | ⟨g, cap, cur, rfl, _, _, hnc, _⟩
      · simp [Builtin.append_, run_underlying hE.ht, sizeOf, typeInfo, hi, Builtin.lenOf, Builtin.firstCells, loadCells, loadCellsFrom]
      · simp [Builtin.append_, run_underlying hE.ht, sizeOf, typeInfo, hi, Builtin.lenOf, Builtin.firstCells, loadCells, loadCellsFrom, hnc, storeCells]
  · obtain ⟨b, o, rfl, _, hc⟩ := hr.2 h0
    have hcell : ∀ j u, news[j]? = some u → w.cell? ((⟨b, o, none⟩ : Addr).add j) = some u := by
      intro j u hu
      have : (⟨b, o, none⟩ : Addr).add j = ⟨b, o + j, none⟩ := by unfold Addr.add; split <;> simp_all
      rw [this]; exact hc j u hu
    obtain ⟨v', w', h2, h3, h4, _, h5⟩ := run_append_own_at (P := P) w base T ty E i z size bytes hE.ht hi hz hs1 hs2 hs3 hE.pos v n xs hown ⟨b, o, none⟩ m c news hr.1 hcell h1
      (by unfold maxLen; omega) (by have := Nat.mul_le_mul h63 hbytes; omega) hbase
    refine ⟨v', w', h2, h3, h4, fun q hq => ?_⟩
    rcases h5 with e | e
    · rw [e] at hq; exact .inl hq
    · rw [e] at hq; simp at hq; exact .inr (by omega)

theorem wp_app_row_at {P : Program} {w : World} {o : Oper} {a : Act} {K : Act → World → Prop} {Q : Exit → Act → World → Prop} (s x : Operand) {T : TypeId}
    (ho : o.op = .call { callee := .builtin .append, args := #[s, x], argTypes := #[T, T] })
    {E : TypeId} {size bytes : Nat} (hE : EI P T E size bytes) {base n : Nat} {v : Value} {xs : List Value} (hs : a.eval s = v) (hown : w.ownsRow base E size v n xs)
    {B m c : Nat} {A : Option Addr} {news : List Value} (hx : a.eval x = .slice A m c) (hr : Row w B size A m news) (h1 : ∀ u ∈ news, u.oneCell' = true) (h63 : n + m ≤ 1000000000000) (hbytes : bytes ≤ 100) (hbase : base ≤ w.heap.size)
    (h : ∀ v' w', w'.ownsRow base E size v' (n + m) (xs ++ news) → Hid (w.grownBy w' v.ownBlock) → Below base w w' → Hid (At w.heap.size v v') → K (a.put o.dst v') w') : o.wp P a w K Q := by
  obtain ⟨v', w', hrun, h2, h3, h4⟩ := run_app_row_at (ty := o.type) (c := c) hE hown hr h1 h63 hbytes hbase
  unfold Oper.wp execOp
  simp only [ho, resolve, invoke, builtin, Sem.run_bind, Sem.run_pure, Result.andThen_ok, List.map_toArray, List.map_cons, List.map_nil, hs, hx, hrun]
  exact h v' w' h2 h3 (below_grown (Below.refl _ _) hown (Below.refl _ _) h3 hbase) h4
end Go.Proofs.YtmmgfoepfapnkaaGreatDoor

namespace Go.Proofs.YtmmgfoepfapnkaaGreatDoor
open Go.RowKit

def setAll (g : Nat) : World → Nat → List Value → World
  | w, _, [] => w
  | w, j, v :: r => setAll g (w.setCell ⟨g, j, none⟩ v) (j + 1) r
theorem below_setAll {B g : Nat} {w : World} (hg : B ≤ g) : ∀ {w1 : World} (j : Nat) (vs : List Value), Below B w w1 → Below B w (setAll g w1 j vs)
  | _, _, [], h => h
  | _, j, v :: r, h => below_setAll hg (j + 1) r (h.setCell (p := ⟨g, j, none⟩) hg v)
theorem grown_setAll (g : Nat) : ∀ (w1 : World) (j : Nat) (vs : List Value), w1.grownBy (setAll g w1 j vs) (some g)
  | w1, _, [] => grown_ext (Below.refl w1.heap.size w1) (some g)
  | w1, j, v :: r => (grown_set w1 ⟨g, j, none⟩ v).trans (grown_setAll g _ (j + 1) r)
theorem own_setAll {w : World} {base : Nat} {e : TypeId} {size n : Nat} {v : Value} {xs : List Value} (h : w.ownsRow base e size v n xs) {g : Nat} (hg : v.ownBlock ≠ some g) (j : Nat) (vs : List Value) : (setAll g w j vs).ownsRow base e size v n xs :=
  World.ownsRow.kept h (grown_setAll g w j vs) (.inr hg)
theorem grown_blk {w w1 : World} {row : Option Nat} {g : Nat} {o : Obj} (h : w.grownBy w1 row) (hg : w.heap[g]? = some o) (hne : row ≠ some g) : w1.heap[g]? = some o :=
  (h.block g (Array.getElem?_eq_some_iff.1 hg).1 (fun e => hne e.symm)).trans hg
end Go.Proofs.YtmmgfoepfapnkaaGreatDoor

namespace Go.Proofs.YtmmgfoepfapnkaaGreatDoor.Pb
open Go.Proofs.YtmmgfoepfapnkaaGreatDoor.Cl (strip)
open Go.Proofs.YtmmgfoepfapnkaaGreatDoor.Fn (cl rs emp trim)
open Go.Proofs.YtmmgfoepfapnkaaGreatDoor.Bk (Tree Pl)

/-- an open container: its closed blocks, and the list that is the last of them, if one is: its sign, its line, its items -/
structure Cn where
  kind : Nat
  line : Nat
  kids : List Tree
  sign : UInt8
  col : Nat
  lst : Option (UInt8 × Nat × List Tree)
/-- an open leaf; of kind 0 where none is -/
structure Of where
  kind : Nat
  line : Nat
  lines : List (List UInt8)
  op : Fn.Op
  ended : Bool
structure Rd where
  row : List Cn
  leaf : Of
  places : List Pl
def listTree : Option (UInt8 × Nat × List Tree) → List Tree
  | none => []
  | some (_, ln, is) => [.mk 2 0 [] [] ln is]
def Cn.all (c : Cn) : List Tree := c.kids ++ listTree c.lst
def Cn.tree (c : Cn) : Tree := .mk c.kind 0 [] [] c.line c.all
def Cn.listSign (c : Cn) : UInt8 := match c.lst with
  | none => 0
  | some (s, _, _) => s
def Cn.add (t : Tree) (c : Cn) : Cn := { c with kids := c.all ++ [t], lst := none }
/-- an item that is closed: of the last list, if it has its sign -/
def Cn.addItem (d c : Cn) : Cn := match c.lst with
  | none => { c with kids := c.all, lst := some (d.sign, d.line, [d.tree]) }
  | some (s, ln, is) => if s = d.sign then { c with lst := some (s, ln, is ++ [d.tree]) } else { c with kids := c.all, lst := some (d.sign, d.line, [d.tree]) }
def give (d c : Cn) : Cn := if d.kind = 3 then Cn.addItem d c else Cn.add d.tree c
def noOp : Fn.Op := ⟨0, 0, 0, []⟩
def noLeaf : Of := ⟨0, 0, [], noOp, false⟩
/-- texts with 10 between them -/
def joinNl : List (List UInt8) → List UInt8
  | [] => []
  | [x] => x
  | x :: y :: r => x ++ 10 :: joinNl (y :: r)
def Of.place (l : Of) : Pl := ⟨l.line, l.op, l.line + 1, l.line + 1 + l.lines.length, l.ended⟩
def paraTree (l : Of) : Tree := .mk 4 0 (joinNl l.lines) [] l.line []
def fenceTree (l : Of) : Tree := .mk 7 0 (Ln.join l.lines [10]) l.op.info l.line []
def addTip (t : Tree) (r : Rd) : Rd := match r.row with
  | [] => r
  | c :: o => { r with row := c.add t :: o }
def closeLeaf (r : Rd) : Rd :=
  if r.leaf.kind = 4 then { addTip (paraTree r.leaf) r with leaf := noLeaf }
  else if r.leaf.kind = 7 then { addTip (fenceTree r.leaf) r with leaf := noLeaf, places := if r.row.length = 1 then r.places ++ [r.leaf.place] else r.places }
  else { r with leaf := noLeaf }
/-- the innermost n are closed -/
def pops : Nat → List Cn → List Cn
  | 0, r => r
  | _ + 1, [] => []
  | _ + 1, [c] => [c]
  | n + 1, d :: c :: o => pops n (give d c :: o)
def closeTo (k : Nat) (r : Rd) : Rd := { closeLeaf r with row := pops ((closeLeaf r).row.length - k) (closeLeaf r).row }
def fresh (ln : Nat) : Option (UInt8 × Nat) → Cn
  | none => ⟨1, ln, [], 0, 0, none⟩
  | some (c, n) => ⟨3, ln, [], c, n, none⟩
def push (c : Cn) (r : Rd) : Rd := { r with row := c :: r.row }
/-- what a line begins -/
def begin (ln : Nat) : Nat → Nat → Rd → List UInt8 → Rd × Nat × List UInt8
  | 0, k, r, s => (r, k, s)
  | m + 1, k, r, s => match Bk.opener s with
    | none => (r, k, s)
    | some (o, q) => begin ln m (k + 1) (push (fresh ln o) (closeTo k r)) q
/-- does a container take a line, and what is left of it there -/
def Cn.take (c : Cn) (s : List UInt8) : Option (List UInt8) :=
  if c.kind = 1 then Lf.quote s
  else if c.kind = 3 then (if emp s = true then some s else if cl s < c.col then none else some (strip c.col s))
  else some s
/-- how many of a row, the outermost first, take a line, and what is left of it -/
def take : List Cn → List UInt8 → Nat × List UInt8
  | [], s => (0, s)
  | c :: r, s => match c.take s with
    | none => (0, s)
    | some q => ((take r q).1 + 1, (take r q).2)
def leafLine (ln k : Nat) (s : List UInt8) (r : Rd) : Rd :=
  if emp s = true then closeTo k r
  else match Lf.heading s with
    | some (n, t) => addTip (.mk 5 n t [] ln []) (closeTo k r)
    | none =>
      if Lf.brk s = true then addTip (.mk 6 0 [] [] ln []) (closeTo k r)
      else match Fn.begins s with
        | some f => { closeTo k r with leaf := ⟨7, ln, [], f, false⟩ }
        | none =>
          if r.leaf.kind = 4 then { r with leaf := { r.leaf with lines := r.leaf.lines ++ [trim s] } }
          else { closeTo k r with leaf := ⟨4, ln, [trim s], noOp, false⟩ }
def fenceLine (s : List UInt8) (r : Rd) : Rd :=
  if Fn.ends r.leaf.op.c r.leaf.op.n s = true then closeLeaf { r with leaf := { r.leaf with ended := true } }
  else { r with leaf := { r.leaf with lines := r.leaf.lines ++ [strip r.leaf.op.ind s] } }
def takeLine (ln : Nat) (s : List UInt8) (r : Rd) : Rd :=
  if r.leaf.kind = 7 ∧ (take r.row.reverse s).1 = r.row.length then fenceLine (take r.row.reverse s).2 r
  else leafLine ln (begin ln (41 - (take r.row.reverse s).1) (take r.row.reverse s).1 r (take r.row.reverse s).2).2.1 (begin ln (41 - (take r.row.reverse s).1) (take r.row.reverse s).1 r (take r.row.reverse s).2).2.2
    (begin ln (41 - (take r.row.reverse s).1) (take r.row.reverse s).1 r (take r.row.reverse s).2).1
def start : Rd := ⟨[⟨0, 0, [], 0, 0, none⟩], noLeaf, []⟩
def lines : List (List UInt8) → Nat → Rd → Rd
  | [], _, r => r
  | s :: t, i, r => lines t (i + 1) (takeLine i s r)
def read (ls : List (List UInt8)) : Rd := closeTo 1 (lines ls 0 start)
def tree (ls : List (List UInt8)) : Tree := match (read ls).row with
  | [] => .mk 0 0 [] [] 0 []
  | c :: _ => c.tree
end Go.Proofs.YtmmgfoepfapnkaaGreatDoor.Pb

namespace Go.Proofs.YtmmgfoepfapnkaaGreatDoor
open Go.RowKit

theorem step_tab_int (c : Nat) : (c : Int) - (c : Int) % 4 + 4 = (Cl.step c 9 : Nat) ∧ (c : Int) + 4 - (c : Int) % 4 = (Cl.step c 9 : Nat) := by
  rw [Cl.step_tab]
  have : c % 4 < 4 := Nat.mod_lt _ (by omega)
  omega

set_option maxHeartbeats 1000000 in
theorem after_any (c : Nat) (b : UInt8) (w : World) (hc : c ≤ 1000000000000000) :
    Calls Tryz.prog 194 #[.int .i64 c, .int .u8 (b.toNat : Int)] w fun e w' => e = .returned (.int .i64 (Cl.step c b : Nat)) ∧ w = w' := by
  by_cases h : b = 9
  · subst h
    have ht := (step_tab_int c).1
    go_enter Tryz.func194, Tryz.ntmps194
    go_wp2
    go_ret
    refine ⟨?_, rfl⟩
    rw [← ht]; rfl
  · have ht := byte_ne (n := 9) (by omega) h
    have hs := Cl.step_one c h
    clear h
    go_enter Tryz.func194, Tryz.ntmps194
    go_wp2
    go_ret
    refine ⟨?_, rfl⟩
    rw [hs]; rfl

theorem ret_two {p : Nat × Nat} {c k : Nat} (h : Hid ((c, k) = p)) : Ending.returned (.tuple #[.int .i64 (c : Int), .int .i64 (k : Int)]) = .returned (.tuple #[.int .i64 (p.1 : Nat), .int .i64 (p.2 : Nat)]) := by
  rw [← h.out]

set_option maxHeartbeats 1000000 in
theorem lead_any (l : List UInt8) (n : Int) (w : World) (hl : l.length ≤ 140737488355328) :
    Calls Tryz.prog 175 #[.string (bs l), .int .i64 n] w fun e w' => e = .returned (.tuple #[.int .i64 ((Cl.lead n l 0).1 : Nat), .int .i64 ((Cl.lead n l 0).2 : Nat)]) ∧ w = w' := by
  have hsz := bs_size l
  go_enter Tryz.func175, Tryz.ntmps175
  go_wp2_with fail
  go_loop [6, 7] (fun v u => ∃ c k : Nat, k ≤ l.length ∧ c ≤ 4 * k ∧ v = .int .i64 c ∧ u = .int .i64 k ∧ Hid (Cl.fin n l k c = Cl.lead n l 0)) (fun v u => l.length - (intOf u).toNat)
  case atStart => exact ⟨0, 0, by omega, by omega, rfl, rfl, Lib.hid (Cl.fin_zero n l)⟩
  case round =>
    obtain ⟨c, k, hk, hck, rfl, rfl, hf⟩ := hrel
    by_cases hc : (c : Int) < n
    · rcases Nat.lt_or_eq_of_le hk with hlt | rfl
      · have hx := run_byte hlt w
        have hst := Cl.step_le c l[k]
        rcases gap_tests l[k] with ⟨h1, h3⟩ | ⟨h1, h2, h3⟩ | ⟨h1, h2, h3⟩
        · have hf2 := Lib.hid ((Cl.fin_step hlt hc h3).trans hf.out)
          go_wp2_with (go_at_call 194; refine (after_any c l[k] _ (by omega)).mono ?_; rintro e w' ⟨rfl, rfl⟩)
          go_round
          case rel => exact ⟨Cl.step c l[k], k + 1, by omega, by omega, rfl, by go_num, hf2⟩
          case measure => simp [intOf]; omega
        · have hf2 := Lib.hid ((Cl.fin_step hlt hc h3).trans hf.out)
          go_wp2_with (go_at_call 194; refine (after_any c l[k] _ (by omega)).mono ?_; rintro e w' ⟨rfl, rfl⟩)
          go_round
          case rel => exact ⟨Cl.step c l[k], k + 1, by omega, by omega, rfl, by go_num, hf2⟩
          case measure => simp [intOf]; omega
        · have hfin := Lib.hid ((Cl.fin_word hlt h3).symm.trans hf.out)
          go_wp2
          go_returns
          exact ⟨ret_two hfin, rfl⟩
      · have hfin := Lib.hid ((Cl.fin_end (by omega)).symm.trans hf.out)
        go_wp2
        go_returns
        exact ⟨ret_two hfin, rfl⟩
    · have hfin := Lib.hid ((Cl.fin_full l hc).symm.trans hf.out)
      go_wp2
      go_returns
      exact ⟨ret_two hfin, rfl⟩

set_option maxHeartbeats 1000000 in
theorem indent_any (l : List UInt8) (w : World) (hl : l.length ≤ 140737488355328) :
    Calls Tryz.prog 193 #[.string (bs l)] w fun e w' => e = .returned (.tuple #[.int .i64 ((Cl.lead Cl.inf l 0).1 : Nat), .int .i64 ((Cl.lead Cl.inf l 0).2 : Nat)]) ∧ w = w' := by
  go_enter Tryz.func193, Tryz.ntmps193
  go_wp2_with (go_at_call 175; refine (lead_any l Cl.inf _ hl).mono ?_; rintro e w' ⟨rfl, rfl⟩)
  go_ret2
  exact ⟨rfl, rfl⟩

theorem ret_same {p q : Nat} : Ending.returned (.bool (((p : Nat) : Int) == (q : Int))) = .returned (.bool (decide (p = q))) := by
  congr 2; rw [Bool.eq_iff_iff]; simp; omega

set_option maxHeartbeats 1000000 in
theorem empty_any (l : List UInt8) (w : World) (hl : l.length ≤ 140737488355328) :
    Calls Tryz.prog 152 #[.string (bs l)] w fun e w' => e = .returned (.bool (decide ((Cl.lead Cl.inf l 0).2 = l.length))) ∧ w = w' := by
  have hsz := bs_size l
  go_enter Tryz.func152, Tryz.ntmps152
  go_wp2_with (go_at_call 175; refine (lead_any l Cl.inf _ hl).mono ?_; rintro e w' ⟨rfl, rfl⟩)
  go_ret
  exact ⟨ret_same, rfl⟩

end Go.Proofs.YtmmgfoepfapnkaaGreatDoor

namespace Go.Proofs.YtmmgfoepfapnkaaGreatDoor
open Go.RowKit

end Go.Proofs.YtmmgfoepfapnkaaGreatDoor

namespace Go.Proofs.YtmmgfoepfapnkaaGreatDoor
open Go.RowKit

end Go.Proofs.YtmmgfoepfapnkaaGreatDoor

namespace Go.Proofs.YtmmgfoepfapnkaaGreatDoor.Ln

theorem run_take {l : List UInt8} {m : Nat} (h : run l < m) : run (l.take m) = run l := by
  induction l generalizing m with
  | nil => simp
  | cons b r ih =>
    match m, h with
    | m + 1, h =>
      rw [List.take_succ_cons, run, run]
      rw [run] at h
      split
      · rfl
      · rename_i hb
        rw [if_neg hb] at h
        rw [ih (by omega)]
theorem endLen_take {l : List UInt8} {m : Nat} (h0 : 0 < l.length) (h : endLen l ≤ m) : endLen (l.take m) = endLen l := by
  match l, h0 with
  | [b], _ =>
    have h1 := endLen_pos (l := [b]) (by simp)
    match m, h with
    | 0, h => omega
    | m + 1, _ => simp
  | b :: c :: r, _ =>
    have h1 := endLen_pos (l := b :: c :: r) (by simp)
    match m, h with
    | 0, h => omega
    | 1, h =>
      by_cases hb : b = 13
      · subst hb
        by_cases hc : c = 10
        · subst hc; rw [endLen_two] at h; omega
        · rw [endLen_cr r hc]; rfl
      · rw [endLen_else _ hb]
        simp only [List.take_succ_cons, List.take_zero]
        exact endLen_else _ hb
    | m + 2, _ =>
      simp only [List.take_succ_cons]
      by_cases hb : b = 13
      · subst hb
        by_cases hc : c = 10
        · subst hc; rfl
        · rw [endLen_cr r hc, endLen_cr _ hc]
      · rw [endLen_else _ hb, endLen_else _ hb]
theorem lines_from : ∀ (k : Nat) {l : List UInt8} {a : Nat} (h : k < (lines l a).length), a ≤ (lines l a)[k].1 ∧ (lines l a)[k].1 < l.length ∧ lines l (lines l a)[k].1 = (lines l a).drop k ∧ (0 < k → nxt l a ≤ (lines l a)[k].1)
  | 0, l, a, h => by
    by_cases ha : a < l.length
    · simp only [lines_step ha, List.getElem_cons_zero, List.drop_zero]
      exact ⟨Nat.le_refl _, ha, trivial, fun e => by omega⟩
    · rw [lines_end ha] at h; simp at h
  | k + 1, l, a, h => by
    by_cases ha : a < l.length
    · have hs := lines_step ha
      have hk : k < (lines l (nxt l a)).length := by rw [hs] at h; simpa using h
      obtain ⟨h1, h2, h3, _⟩ := lines_from k hk
      have hlt := lt_nxt ha
      simp only [hs, List.getElem_cons_succ, List.drop_succ_cons]
      exact ⟨by omega, h2, h3, fun _ => h1⟩
    · rw [lines_end ha] at h; simp at h
theorem lines_take : ∀ (k : Nat) {l : List UInt8} {a : Nat} (h : k < (lines l a).length), lines (l.take (lines l a)[k].1) a = (lines l a).take k
  | 0, l, a, h => by
    obtain ⟨h1, h2, _, _⟩ := lines_from 0 h
    by_cases ha : a < l.length
    · simp only [lines_step ha, List.getElem_cons_zero, List.take_zero]
      rw [lines_end (by rw [List.length_take]; omega)]
    · rw [lines_end ha] at h; simp at h
  | k + 1, l, a, h => by
    by_cases ha : a < l.length
    · have hs := lines_step ha
      have hk : k < (lines l (nxt l a)).length := by rw [hs] at h; simpa using h
      obtain ⟨h1, h2, _, _⟩ := lines_from k hk
      have hlt := lt_nxt ha
      have ih := lines_take k hk
      simp only [hs, List.getElem_cons_succ, List.take_succ_cons]
      obtain ⟨b, hb⟩ : ∃ b, (lines l (nxt l a))[k].1 = b := ⟨_, rfl⟩
      rw [hb] at h1 h2 ih ⊢
      have he : eol l a < nxt l a := by
        have := endLen_pos (l := l.drop (eol l a)) (by
          rw [List.length_drop]
          have h5 := eol_le (l := l) (k := a) (by omega)
          rcases Nat.lt_or_ge (eol l a) l.length with h6 | h6
          · omega
          · exfalso
            have h7 := le_nxt l a
            omega)
        unfold nxt; omega
      have hr : run (l.drop a) < b - a := by unfold eol at he; omega
      have e1 : eol (l.take b) a = eol l a := by
        unfold eol
        rw [List.drop_take, run_take hr]
      have e2 : nxt (l.take b) a = nxt l a := by
        unfold nxt
        rw [e1, List.drop_take, endLen_take (by rw [List.length_drop]; omega) (by unfold nxt at h1; omega)]
      rw [lines_step (by rw [List.length_take]; omega), e1, e2, ih]
    · rw [lines_end ha] at h; simp at h
theorem eol_drop (l : List UInt8) (a k : Nat) : eol l (a + k) = a + eol (l.drop a) k := by
  unfold eol; rw [List.drop_drop]; omega
theorem nxt_drop (l : List UInt8) (a k : Nat) : nxt l (a + k) = a + nxt (l.drop a) k := by
  unfold nxt; rw [eol_drop, List.drop_drop]; omega
theorem mid_drop {α : Type} (l : List α) (a k e : Nat) : mid (l.drop a) k e = mid l (a + k) (a + e) := by
  unfold mid; rw [List.drop_drop, show a + e - (a + k) = e - k from by omega]
theorem texts_drop (l : List UInt8) (a k : Nat) : texts (l.drop a) k = texts l (a + k) := by
  by_cases h : a + k < l.length
  · have h' : k < (l.drop a).length := by rw [List.length_drop]; omega
    have := lt_nxt h'
    rw [texts_step h', texts_step h, mid_drop, ← eol_drop, nxt_drop, texts_drop l a (nxt (l.drop a) k)]
  · rw [texts_end h, texts_end (by rw [List.length_drop]; omega)]
termination_by l.length - a - k
decreasing_by omega
theorem lines_texts (l : List UInt8) (k : Nat) : (texts l k).length = (lines l k).length := by unfold texts; rw [List.length_map]
/-- the texts from a line on up to another one are those of the bytes between -/
theorem texts_sub {l : List UInt8} {a b : Nat} (hab : a ≤ b) (hb : b < (lines l 0).length) :
    texts (mid l ((lines l 0)[a]'(by omega)).1 (lines l 0)[b].1) 0 = mid (texts l 0) a b := by
  obtain ⟨h1, h2, h3, _⟩ := lines_from a (l := l) (a := 0) (by omega)
  obtain ⟨A, hA⟩ : ∃ A, ((lines l 0)[a]'(by omega)).1 = A := ⟨_, rfl⟩
  rw [hA] at h1 h2 h3 ⊢
  have hk : b - a < (lines l A).length := by rw [h3, List.length_drop]; omega
  have e : (lines l A)[b - a].1 = (lines l 0)[b].1 := by
    have hi : a + (b - a) = b := by omega
    simp only [h3, List.getElem_drop]
    exact congrArg (fun x : Nat × Nat × Nat => x.1) (by simp only [hi])
  have ht := lines_take (b - a) hk
  rw [e] at ht
  obtain ⟨Z, hZ⟩ : ∃ Z, (lines l 0)[b].1 = Z := ⟨_, rfl⟩
  rw [hZ] at ht ⊢
  rw [show mid l A Z = (l.take Z).drop A from by unfold mid; rw [List.drop_take], texts_drop, Nat.add_zero, texts, ht, h3]
  rw [show mid (texts l 0) a b = (((lines l 0).drop a).take (b - a)).map fun x => mid l x.1 x.2.1 from by unfold mid texts; rw [← List.map_drop, ← List.map_take]; rfl]
  refine List.map_congr_left fun x hx => ?_
  rw [← h3, ← ht] at hx
  have hw := lines_within _ _ x hx
  rw [List.length_take] at hw
  show mid (l.take Z) x.1 x.2.1 = mid l x.1 x.2.1
  unfold mid
  rw [List.drop_take, List.take_take, Nat.min_eq_left (by omega)]
theorem at_lt {l : List UInt8} {a b : Nat} (hab : a < b) (hb : b < (lines l 0).length) : ((lines l 0)[a]'(by omega)).1 < (lines l 0)[b].1 := by
  obtain ⟨h1, h2, h3, _⟩ := lines_from a (l := l) (a := 0) (by omega)
  obtain ⟨A, hA⟩ : ∃ A, ((lines l 0)[a]'(by omega)).1 = A := ⟨_, rfl⟩
  rw [hA] at h1 h2 h3 ⊢
  have hk : b - a < (lines l A).length := by rw [h3, List.length_drop]; omega
  have e : (lines l A)[b - a].1 = (lines l 0)[b].1 := by
    have hi : a + (b - a) = b := by omega
    simp only [h3, List.getElem_drop]
    exact congrArg (fun x : Nat × Nat × Nat => x.1) (by simp only [hi])
  obtain ⟨_, _, _, h5⟩ := lines_from (b - a) hk
  rw [e] at h5
  have := h5 (by omega)
  have := lt_nxt h2
  omega
end Go.Proofs.YtmmgfoepfapnkaaGreatDoor.Ln

namespace Go.Proofs.YtmmgfoepfapnkaaGreatDoor
open Go.RowKit

/-- make of as many elements as there is room for -/
theorem run_mk {P : Program} {T E : TypeId} {size bytes : Nat} (hE : EI P T E size bytes) {z : Value} (hz : (P.info? E).map (fun i => i.zero) = some (some z)) (n : Nat) (hn : n ≤ 1000000000) (hb : bytes ≤ 1000) (w : World) :
    (Instr.makeSlice T (.int .i64 (n : Int)) (.int .i64 (n : Int))).run P w = .ok (.slice (some ⟨w.heap.size, 0, none⟩) n n) (w.alloc (.cells (madeCells z.cells (n * size)) E)) := by
  obtain ⟨i, z', hi, hz', hs1, hs2, hs3⟩ := hE.info
  have hzz : i.zero = some z := by rw [hi] at hz; simpa using hz
  have hm : bytes * n ≤ 1000 * 1000000000 := Nat.mul_le_mul hb hn
  have hm' : (i.bytes : Int) * (n : Int) ≤ 281474976710656 := by
    rw [hs2, ← Int.natCast_mul]; omega
  have := run_make (P := P) w T E i z hE.ht hi hzz .i64 .i64 (n : Int) (n : Int) (by omega) (Int.le_refl _) hm' (by omega)
  rw [Int.toNat_natCast, hs1] at this
  exact this
end Go.Proofs.YtmmgfoepfapnkaaGreatDoor
