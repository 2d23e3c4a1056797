/- Plain words for memory, of my own: a slice value whose cells read as a list ('Row'), bytes and texts as lists of bytes. No law is claimed here. Two rows of the call's own, appended to in turn: they lie apart. A struct in a new block: what a load and a store of it want to know, behind what has left it alone. Memory of a call's own, part by part: blocks of a struct and rows, each in a block of its own, by keys. No function of the program is spoken of here. Package runes: the kinds of runes, by the program and by the document's own answer: one contract each, for every number of 32 bits. Plain mathematics of columns: the blanks and tabs at a text's beginning, a text without its first columns, its width. No program is spoken of here. Plain mathematics of columns: a text with its tabs as blanks, a text stripped of some columns, and of some more. No program is spoken of here. Plain mathematics of fences: runs of a sign, the longest one, a text without the blanks and tabs around it, the line that begins a fence, the line that ends one. No program is spoken of here. Code within text, as lists, by no program: a span's end, what is between, cleaned. Bytes of a text, parts of a text, tests of bytes: what the machine's own operations give. No function of the program is spoken of here. append of elements that lie in some block, to a row that the call owns. No function of the program is spoken of here. make([]T, n, n): what it gives, whatever n (up to a million), as an equation for a walk. The document's own count of signs in a row. The document's own code within text: one contract for each function. Plain mathematics of single lines: headings, breaks, quotes, items. No program is spoken of here. Plain mathematics of blocks: a document's lines one by one, the nodes that come of them in their order, each with its parent's number. No program is spoken of here. -/
import Derived.Test.YtkfhkfagmokjpaaDoorRows
import Derived.WalkKit
import Derived.WalkSpells
import Derived.WalkLawsBesides
import Derived.Deep.Draws
import Derived.Lib.Hide
import Derived.Lib.AppendStr
import Derived.Handy
import Derived.Maps.AppendAt
import Derived.Laws.ResultCell
import Derived.Laws.OwnMore
namespace Go.Proofs.YtkfhkfagmokjpaaDoor
open Go.RowKit

/-- a byte as a value -/
def bv (b : UInt8) : Value := .int .u8 (b.toNat : Int)
/-- bytes as cells -/
def bcells (l : List UInt8) : List Value := l.map bv
/-- a text: its bytes -/
def bs (l : List UInt8) : ByteArray := ⟨l.toArray⟩
theorem bs_size (l : List UInt8) : (bs l).size = l.length := by simp [bs, ByteArray.size]

theorem bs_toList (l : List UInt8) : (bs l).toList = l := ByteArray.toList_mk l
theorem bs_eq {a b : List UInt8} (h : a = b) : ((bs a).toList == (bs b).toList) = true := by subst h; simp
theorem bs_ne {a b : List UInt8} (h : a ≠ b) : ((bs a).toList == (bs b).toList) = false := by rw [bs_toList, bs_toList]; simpa using h
theorem bs_append (a b : List UInt8) : bs a ++ bs b = bs (a ++ b) := by
  apply ByteArray.ext; simp [bs]
theorem bs_inj {a b : List UInt8} (h : bs a = bs b) : a = b := by rw [← bs_toList a, h, bs_toList]

/-- the slice value (A, n, ..) holds the cells xs, all of them in blocks below B -/
def Row (w : World) (B size : Nat) (A : Option Addr) (n : Nat) (xs : List Value) : Prop :=
  xs.length = n * size ∧ (0 < n → ∃ b o, A = some ⟨b, o, none⟩ ∧ b < B ∧ ∀ j u, xs[j]? = some u → w.cell? ⟨b, o + j, none⟩ = some u)

section
variable {w w' : World} {B B' size n : Nat} {A : Option Addr} {xs : List Value}
theorem Row.nil : Row w B size A 0 [] := ⟨by simp, fun h => absurd h (by omega)⟩
theorem Row.keep (h : Row w B size A n xs) (hk : ∀ p : Addr, p.block < B → w'.cell? p = w.cell? p) : Row w' B size A n xs :=
  ⟨h.1, fun hn => by
    obtain ⟨b, o, e, hb, hc⟩ := h.2 hn
    exact ⟨b, o, e, hb, fun j u hu => (hk _ hb).trans (hc j u hu)⟩⟩
theorem Row.more (h : Row w B size A n xs) (hB : B ≤ B') : Row w B' size A n xs :=
  ⟨h.1, fun hn => by
    obtain ⟨b, o, e, hb, hc⟩ := h.2 hn
    exact ⟨b, o, e, by omega, hc⟩⟩
theorem Row.below (h : Row w B size A n xs) (hb : Below B w w') : Row w' B size A n xs := h.keep fun _ hp => hb.cell hp
theorem Row.drewN (h : Row w B size A n xs) (k : Nat) : Row (w.drewN k) B size A n xs := h
theorem Row.drew (h : Row w B size A n xs) : Row w.drew B size A n xs := h
theorem Row.alloc (h : Row w B size A n xs) (hB : B ≤ w.heap.size) (o : Obj) : Row (w.alloc o) B size A n xs := h.keep fun p hp => World.cell?_alloc_lt w o p (by omega)
theorem Row.own {base : Nat} {e : TypeId} {c : Nat} (h : w.ownsRow base e size (.slice A n c) n xs) : Row w w.heap.size size A n xs := by
  refine ⟨h.1, fun hn => ?_⟩
  rcases h.2 with ⟨_, h0⟩ | ⟨g, cap, cur, hv, _, hg, _, _, _, htake⟩
  · omega
  · have hA : A = some ⟨g, 0, none⟩ := by injection hv
    refine ⟨g, 0, hA, (Array.getElem?_eq_some_iff.1 hg).1, fun j u hu => ?_⟩
    have hc := h.cells (g := g) (by rw [hA]; rfl) j u hu
    have : (⟨g, 0, none⟩ : Addr).add j = ⟨g, 0 + j, none⟩ := by unfold Addr.add; split <;> simp_all
    rwa [this] at hc
/-- one cell of a row of one-cell elements -/
theorem Row.at1 (h : Row w B 1 A n xs) {k : Nat} (hk : k < n) : ∃ b o, A = some ⟨b, o, none⟩ ∧ b < B ∧ ∀ j, (hj : j < n) → w.cell? ⟨b, o + j, none⟩ = some (xs[j]'(by have := h.1; omega)) := by
  obtain ⟨b, o, e, hb, hc⟩ := h.2 (by omega)
  refine ⟨b, o, e, hb, fun j hj => hc j _ ?_⟩
  exact List.getElem?_eq_getElem _
end

/-- what an owned value looks like -/
theorem own_shape {w : World} {base : Nat} {e : TypeId} {size n : Nat} {v : Value} {xs : List Value} (h : w.ownsRow base e size v n xs) : ∃ A c, v = .slice A n c ∧ n ≤ c := by
  rcases h.2 with ⟨rfl, rfl⟩ | ⟨g, cap, cur, rfl, _, _, hn, _⟩
  · exact ⟨none, 0, rfl, by omega⟩
  · exact ⟨_, cap, rfl, hn⟩


/-- an element type's row of the table: slices of type T have elements of type E, of so many cells and bytes -/
structure EI (P : Program) (T E : TypeId) (size bytes : Nat) : Prop where
  ht : P.underlying T = some (.slice E)
  info : ∃ i z, P.info? E = some i ∧ i.zero = some z ∧ i.size = size ∧ i.bytes = bytes ∧ z.cells.size = size
  pos : 0 < size

theorem EI.mk' {P : Program} {T E : TypeId} {z : Value} {size bytes : Nat} (ht : P.underlying T = some (.slice E))
    (h : (P.info? E).map (fun i => (i.zero, i.size, i.bytes)) = some (some z, size, bytes)) (hz : z.cells.size = size) (hp : 0 < size) : EI P T E size bytes := by
  obtain ⟨i, h1, h2, h3, h4⟩ := info_parts h
  exact ⟨ht, ⟨i, z, h1, h2, h3, h4, hz⟩, hp⟩

theorem own_below {w w1 : World} {base : Nat} {e : TypeId} {size n : Nat} {v : Value} {xs : List Value} (h : w.ownsRow base e size v n xs) (hb : Below w.heap.size w w1) : w1.ownsRow base e size v n xs := by
  refine ⟨h.1, ?_⟩
  rcases h.2 with hn | ⟨g, cap, cur, rfl, hbg, hgg, rest⟩
  · exact .inl hn
  · exact .inr ⟨g, cap, cur, rfl, hbg, (hb.block g (Array.getElem?_eq_some_iff.1 hgg).1).trans hgg, rest⟩

theorem below_grown {w w1 w2 : World} {base : Nat} {e : TypeId} {size n : Nat} {v : Value} {xs : List Value} {a : World} (h : Below base a w) (hown : w1.ownsRow base e size v n xs)
    (h1 : Below base w w1) (hg : w1.grownBy w2 v.ownBlock) (hbase : base ≤ w1.heap.size) : Below base a w2 :=
  (h.trans h1).grown hg hbase fun k hk => (hown.lt k hk).1

theorem cells_new (w0 : World) (cs : Array Value) (E : TypeId) {g : Nat} (hg : g = w0.heap.size) : ∀ j u, cs.toList[j]? = some u → (w0.alloc (.cells cs E)).cell? ((⟨g, 0, none⟩ : Addr).add j) = some u := by
  intro j u hu
  have : (⟨g, 0, none⟩ : Addr).add j = ⟨g, j, none⟩ := by unfold Addr.add; split <;> simp_all
  rw [this, World.cell?_alloc_at _ _ _ _ hg]
  simpa using hu

theorem grown_new {w0 w' : World} {o : Obj} {row : Option Nat} (h : (w0.alloc o).grownBy w' row) : w0.grownBy w' row :=
  ⟨h.os, h.tape, h.output, by have := h.size; simp at this; omega, fun i hi hne => (h.block i (by simp; omega) hne).trans (Below.heap_alloc w0 o i hi)⟩
theorem grown_cell {w0 w' : World} {row : Option Nat} (h : w0.grownBy w' row) {p : Addr} (hp : p.block < w0.heap.size) (hne : row ≠ some p.block) : w'.cell? p = w0.cell? p :=
  World.cell?_of_block (h.block p.block hp (fun e => hne e.symm))
/-- an owned row's block is older than the world in which it was owned -/
theorem own_ne {w : World} {base : Nat} {e : TypeId} {size n : Nat} {v : Value} {xs : List Value} (h : w.ownsRow base e size v n xs) {k : Nat} (hk : w.heap.size ≤ k) : v.ownBlock ≠ some k := fun he => by
  have := (h.lt k he).2; omega
theorem own_ne_lt {w : World} {base : Nat} {e : TypeId} {size n : Nat} {v : Value} {xs : List Value} (h : w.ownsRow base e size v n xs) {k : Nat} (hk : k < base) : v.ownBlock ≠ some k := fun he => by
  have := (h.lt k he).1; omega

/-- append of elements that were laid in a new block -/
theorem wpList_app_new {P : Program} {w0 : World} {ops : Array Oper} {rest : List Oper} {o : Oper} {a : Act} {Q : Exit → Act → World → Prop} (hgd : o.guard = none) (s x : Operand) {T : TypeId}
    (ho : o.op = .call { callee := .builtin .append, args := #[s, x], argTypes := #[T, T] })
    {E : TypeId} {size bytes : Nat} (hE : EI P T E size bytes) {base n : Nat} {v : Value} {xs : List Value} (hs : a.eval s = v) (hown : w0.ownsRow base E size v n xs)
    {g k c : Nat} {cs : Array Value} (hx : a.eval x = .slice (some ⟨g, 0, none⟩) k c) (hg : g = w0.heap.size) (hcs : cs.size = k * size) (h1 : ∀ u ∈ cs.toList, u.oneCell' = true)
    (h63 : n + k ≤ 1000000000000) (hbytes : bytes ≤ 100) (hbase : base ≤ w0.heap.size)
    (h : ∀ v' w', w'.ownsRow base E size v' (n + k) (xs ++ cs.toList) → Hid (w0.grownBy w' v.ownBlock) → Below base w0 w' → wpList P ops Q rest (a.put o.dst v') w') :
    wpList P ops Q (o :: rest) a (w0.alloc (.cells cs E)) := by
  obtain ⟨i, z, hi, hz, hs1, hs2, hs3⟩ := hE.info
  refine wpList_append_own _ hgd s x T ho base E i z size bytes hE.ht hi hz hs1 hs2 hs3 hE.pos v n xs hs (hown.alloc _) ⟨g, 0, none⟩ k c cs.toList hx (by simpa using hcs) (cells_new w0 cs E hg) h1
    (by unfold maxLen; omega) (by have := Nat.mul_le_mul h63 hbytes; omega) (by simp; omega) ?_
  intro v' w' hw hgr _
  exact h v' w' hw (grown_new hgr) (below_grown (Below.refl _ _) (hown.alloc _) ((Below.refl _ _).alloc hbase _) hgr (by simp; omega))

/-- the address of what is cut off a slice: one name for it, which the walk does not open -/
def cutA (size : Nat) (A : Option Addr) (c lo : Nat) : Option Addr := if c = lo then A else A.map (·.add (lo * size))

theorem run_cut {P : Program} {T : TypeId} (hT : P.underlying T = some (.slice (P.elem T))) (size : Nat) (hsz : ∀ w, (sizeOf (P.elem T)).run P w = .ok size w) (A : Option Addr) (n c lo hi : Nat) (h1 : lo ≤ hi) (h2 : hi ≤ c) (w : World) :
    (Instr.slice T (.slice A n c) (some (.int .i64 (lo : Int))) (some (.int .i64 (hi : Int))) none).run P w = .ok (.slice (cutA size A c lo) (hi - lo) (c - lo)) w := by
  rw [run_slice_lh w T A n c hT .i64 .i64 lo hi (by omega) (by omega) (by omega), hsz]
  simp [sliced, cutA, Result.andThen]

theorem Row.cut {w : World} {B size n : Nat} {A : Option Addr} {xs : List Value} (h : Row w B size A n xs) {c lo hi : Nat} (h1 : lo ≤ hi) (h2 : hi ≤ n) (h3 : n ≤ c) :
    Row w B size (cutA size A c lo) (hi - lo) ((xs.drop (lo * size)).take ((hi - lo) * size)) := by
  refine ⟨?_, fun hn => ?_⟩
  · have hl := h.1
    have h4 := Nat.mul_le_mul_right size h2
    rw [List.length_take, List.length_drop, hl, Nat.sub_mul]
    omega
  · obtain ⟨b, o, rfl, hb, hc⟩ := h.2 (by omega)
    refine ⟨b, o + lo * size, ?_, hb, fun j u hu => ?_⟩
    · unfold cutA
      rw [if_neg (by omega)]
      simp only [Option.map_some, Addr.add]
      split
      · rename_i h0; rw [h0]; rfl
      · rfl
    · have := hc (lo * size + j) u (by
        rw [List.getElem?_take] at hu
        split at hu
        · rwa [List.getElem?_drop] at hu
        · cases hu)
      rwa [← Nat.add_assoc] at this

/-- what lies from lo up to hi -/
def mid {α : Type} (l : List α) (lo hi : Nat) : List α := (l.drop lo).take (hi - lo)
theorem mid_len {α : Type} {l : List α} {lo hi : Nat} (h : hi ≤ l.length) : (mid l lo hi).length = hi - lo := by
  unfold mid; rw [List.length_take, List.length_drop]; omega
theorem Row.sub {w : World} {B n : Nat} {A : Option Addr} {l : List UInt8} (h : Row w B 1 A n (bcells l)) {c lo hi : Nat} (h1 : lo ≤ hi) (h2 : hi ≤ n) (h3 : n ≤ c) :
    Row w B 1 (cutA 1 A c lo) (hi - lo) (bcells (mid l lo hi)) := by
  have := h.cut h1 h2 h3
  simpa [bcells, mid, List.map_take, List.map_drop] using this

/-- bytes made a text -/
theorem run_text {P : Program} {w : World} {B n c : Nat} {A : Option Addr} {l : List UInt8} (h : Row w B 1 A n (bcells l)) (src e dst : TypeId) (hs : P.underlying src = some (.slice e)) (he : P.underlying e = some (.int .u8)) (hd : P.underlying dst = some .string) :
    (convert src dst (.slice A n c)).run P w = .ok (.string (bs l)) w := by
  have hn : l.length = n := by have := h.1; simpa [bcells] using this
  rcases A with _ | ad
  · have h0 : n = 0 := by
      rcases Nat.eq_zero_or_pos n with h0 | h0
      · exact h0
      · obtain ⟨b, o, e, _⟩ := h.2 h0; cases e
    subst h0
    have : l = [] := List.eq_nil_of_length_eq_zero hn
    subst this
    rw [run_convert_bytes_nil w src e hs he 0 c dst hd]
    rfl
  · have hstr : (strOfNums (l.map fun b => (b.toNat : Int))) = ⟨l.toArray⟩ := by
      have hid : ((fun n : Int => UInt8.ofNat n.toNat) ∘ fun b : UInt8 => (b.toNat : Int)) = id := by funext b; simp
      simp only [strOfNums, List.map_map, hid, List.map_id_fun, id]
    rcases Nat.eq_zero_or_pos n with h0 | h0
    · subst h0
      have : l = [] := List.eq_nil_of_length_eq_zero hn
      subst this
      obtain ⟨b, o, sp⟩ := ad
      rw [run_convert_bytes_string w src dst e _ 0 c hs he hd, run_bytesToString w _ 0 c [] (by simp [loadCells, loadCellsFrom])]
      rfl
    · obtain ⟨b, o, e, _, hc⟩ := h.2 h0
      cases e
      rw [run_convert_bytes_arg w src _ hs he b o n c (l.map fun b => (b.toNat : Int)) (by simpa using hn) (fun i hi => by
        have hil : i < l.length := by omega
        have := hc i _ (List.getElem?_eq_getElem (by simpa [bcells] using hil))
        rw [this]; simp [bcells, bv, List.getElem?_eq_getElem hil]) dst hd, hstr]
      rfl

/-- texts as cells -/
def scells (l : List (List UInt8)) : List Value := l.map fun s => .string (bs s)

theorem strCells_bs (l : List UInt8) : Lib.strCells (bs l) = bcells l := by simp [Lib.strCells, bcells, bv, bs]

/-- append of a text's bytes -/
theorem wpList_app_text {P : Program} {w : World} {ops : Array Oper} {rest : List Oper} {o : Oper} {a : Act} {Q : Exit → Act → World → Prop} (hgd : o.guard = none) (s x : Operand) {T U : TypeId}
    (ho : o.op = .call { callee := .builtin .append, args := #[s, x], argTypes := #[T, U] })
    {E : TypeId} (hE : EI P T E 1 1) (hEz : (P.info? E).map (fun i => i.zero) = some (some (.int .u8 0))) (hU : P.underlying U = some .string) {base n : Nat} {v : Value} {l : List UInt8} (hs : a.eval s = v) (hown : w.ownsRow base E 1 v n (bcells l))
    {t : List UInt8} (hx : a.eval x = .string (bs t)) (h63 : n + t.length ≤ 1000000000000) (hbase : base ≤ w.heap.size)
    (h : ∀ v' w', w'.ownsRow base E 1 v' (n + t.length) (bcells (l ++ t)) → Hid (w.grownBy w' v.ownBlock) → Below base w w' → wpList P ops Q rest (a.put o.dst v') w') :
    wpList P ops Q (o :: rest) a w := by
  obtain ⟨i, z, hi, hz, hs1, hs2, hs3⟩ := hE.info
  have hzz : i.zero = some (.int .u8 0) := by rw [hi] at hEz; simpa using hEz
  have hsz := bs_size t
  refine Lib.wpList_append_own_string w hgd s x T U ho base E i hE.ht hU hi hzz hs1 hs2 v n (bcells l) hs hown (bs t) hx (by rw [hsz]; unfold maxLen; omega) (by rw [hsz]; omega) hbase ?_
  intro v' w' hw hgr _
  rw [hsz, strCells_bs] at hw
  exact h v' w' (by simpa [bcells] using hw) hgr (below_grown (Below.refl _ _) hown (Below.refl _ _) hgr hbase)

theorem own_base {w : World} {b0 b1 : Nat} {e : TypeId} {size n : Nat} {v : Value} {xs : List Value} (h : w.ownsRow b1 e size v n xs) (hb : b0 ≤ b1) : w.ownsRow b0 e size v n xs := by
  refine ⟨h.1, ?_⟩
  rcases h.2 with hn | ⟨g, cap, cur, rfl, hbg, rest⟩
  · exact .inl hn
  · exact .inr ⟨g, cap, cur, rfl, Nat.le_trans hb hbg, rest⟩

theorem below_drewN {B : Nat} {a w : World} (h : Below B a w) (n : Nat) : Below B a (w.drewN n) := ⟨h.os, h.tape, h.output, h.size, h.block⟩

theorem ext_trans {w w1 w2 : World} (h : Below w.heap.size w w1) (k : Below w1.heap.size w1 w2) : Below w.heap.size w w2 := h.trans (k.mono h.size)
theorem Row.ext {w w' : World} {size n : Nat} {A : Option Addr} {xs : List Value} (h : Row w w.heap.size size A n xs) (hb : Below w.heap.size w w') : Row w' w'.heap.size size A n xs := (h.below hb).more hb.size

/-- a literal row of one-cell elements in a new block, marked or not -/
theorem Row.fresh (w : World) (E : TypeId) (C : Array Value) (m : Nat × Nat) {n : Nat} {xs : List Value} (hn : C.size = n) (hx : C.toList = xs) :
    Row (w.alloc (.cells C E m)) (w.alloc (.cells C E m)).heap.size 1 (some ⟨w.heap.size, 0, none⟩) n xs := by
  subst hn hx
  refine ⟨by simp, fun _ => ⟨w.heap.size, 0, rfl, by simp, fun j u hu => ?_⟩⟩
  rw [World.cell?_alloc_mark]
  simpa using hu
theorem ext_alloc (w : World) (o : Obj) : Below w.heap.size w (w.alloc o) := (Below.refl _ _).alloc (Nat.le_refl _) _

/-- a byte picked out of a literal text by some bits of another byte -/
theorem run_pick {P : Program} (t : TypeId) (ht : P.underlying t = some .string) (s : ByteArray) (b : UInt8) (j : Nat) (m : Int) (hm : m = ((2 ^ j - 1 : Nat) : Int)) (hj : j ≤ 8) (hs : 2 ^ j ≤ s.size) :
    ∃ x : UInt8, ∀ w, (Instr.index t (.string s) (.int .u8 (bits .and .u8 (b.toNat : Int) m))).run P w = .ok (.int .u8 (x.toNat : Int)) w := by
  subst hm
  have hp : 2 ^ j ≤ 256 := Nat.pow_le_pow_right (n := 2) (by omega) hj
  have hpos : 0 < 2 ^ j := Nat.two_pow_pos j
  have hb : b.toNat < 256 := b.toNat_lt
  have e : bits .and .u8 (b.toNat : Int) ((2 ^ j - 1 : Nat) : Int) = ((b.toNat % 2 ^ j : Nat) : Int) := by
    rw [u8_and_nat _ _ hb (by omega), Nat.and_two_pow_sub_one_eq_mod]
  have hlt : b.toNat % 2 ^ j < s.size := Nat.lt_of_lt_of_le (Nat.mod_lt _ hpos) hs
  refine ⟨s[b.toNat % 2 ^ j], fun w => ?_⟩
  rw [e, run_index_string w t s .u8 _ ht, dif_pos ⟨by omega, by omega⟩]
  rfl

theorem Row.dr {w : World} {size n : Nat} {A : Option Addr} {xs : List Value} (h : Row w w.heap.size size A n xs) : Row w.drew w.drew.heap.size size A n xs := h
theorem ext_drew (w : World) : Below w.heap.size w w.drew := (Below.refl _ _).drew

theorem run_app_row {P : Program} {w : World} {T ty : TypeId} {E : TypeId} {size bytes : Nat} (hE : EI P T E size bytes) {base n : Nat} {v : Value} {xs : List Value} (hown : w.ownsRow base E size v n xs)
    {B m c : Nat} {A : Option Addr} {news : List Value} (hr : Row w B size A m news) (h1 : ∀ u ∈ news, u.oneCell' = true) (h63 : n + m ≤ 1000000000000) (hbytes : bytes ≤ 100) (hbase : base ≤ w.heap.size) :
    ∃ v' w', (Builtin.append_ #[T, T] ty #[v, .slice A m c]).run P w = .ok v' w' ∧ w'.ownsRow base E size v' (n + m) (xs ++ news) ∧ w.grownBy w' v.ownBlock := by
  obtain ⟨i, z, hi, hz, hs1, hs2, hs3⟩ := hE.info
  rcases Nat.eq_zero_or_pos m with h0 | h0
  · subst h0
    have hn : news = [] := List.eq_nil_of_length_eq_zero (by simpa using hr.1)
    subst hn
    refine ⟨v, w, ?_, by simpa using hown, World.grownBy.refl w _⟩
    rcases A with _ | ad
    · rcases hown.2 with ⟨rfl, rfl⟩ | ⟨g, cap, cur, rfl, _, _, hnc, _⟩
      · simp [Builtin.append_, run_underlying hE.ht, sizeOf, typeInfo, hi, Builtin.lenOf, Builtin.firstCells]
      · simp [Builtin.append_, run_underlying hE.ht, sizeOf, typeInfo, hi, Builtin.lenOf, Builtin.firstCells, hnc, storeCells]
    · rcases hown.2 with ⟨rfl, rfl⟩ | ⟨g, cap, cur, rfl, _, _, hnc, _⟩
      · simp [Builtin.append_, run_underlying hE.ht, sizeOf, typeInfo, hi, Builtin.lenOf, Builtin.firstCells, loadCells, loadCellsFrom]
      · simp [Builtin.append_, run_underlying hE.ht, sizeOf, typeInfo, hi, Builtin.lenOf, Builtin.firstCells, loadCells, loadCellsFrom, hnc, storeCells]
  · obtain ⟨b, o, rfl, _, hc⟩ := hr.2 h0
    have hcell : ∀ j u, news[j]? = some u → w.cell? ((⟨b, o, none⟩ : Addr).add j) = some u := by
      intro j u hu
      have : (⟨b, o, none⟩ : Addr).add j = ⟨b, o + j, none⟩ := by unfold Addr.add; split <;> simp_all
      rw [this]; exact hc j u hu
    obtain ⟨v', w', h2, h3, h4, _⟩ := run_append_own (P := P) w base T ty E i z size bytes hE.ht hi hz hs1 hs2 hs3 hE.pos v n xs hown ⟨b, o, none⟩ m c news hr.1 hcell h1
      (by unfold maxLen; omega) (by have := Nat.mul_le_mul h63 hbytes; omega) hbase
    exact ⟨v', w', h2, h3, h4⟩

/-- append of a row, nil or not, at an operation -/
theorem wp_app_row {P : Program} {w : World} {o : Oper} {a : Act} {K : Act → World → Prop} {Q : Exit → Act → World → Prop} (s x : Operand) {T : TypeId}
    (ho : o.op = .call { callee := .builtin .append, args := #[s, x], argTypes := #[T, T] })
    {E : TypeId} {size bytes : Nat} (hE : EI P T E size bytes) {base n : Nat} {v : Value} {xs : List Value} (hs : a.eval s = v) (hown : w.ownsRow base E size v n xs)
    {B m c : Nat} {A : Option Addr} {news : List Value} (hx : a.eval x = .slice A m c) (hr : Row w B size A m news) (h1 : ∀ u ∈ news, u.oneCell' = true) (h63 : n + m ≤ 1000000000000) (hbytes : bytes ≤ 100) (hbase : base ≤ w.heap.size)
    (h : ∀ v' w', w'.ownsRow base E size v' (n + m) (xs ++ news) → Hid (w.grownBy w' v.ownBlock) → Below base w w' → K (a.put o.dst v') w') : o.wp P a w K Q := by
  obtain ⟨v', w', hrun, h2, h3⟩ := run_app_row (ty := o.type) (c := c) hE hown hr h1 h63 hbytes hbase
  unfold Oper.wp execOp
  simp only [ho, resolve, invoke, builtin, Sem.run_bind, Sem.run_pure, Result.andThen_ok, List.map_toArray, List.map_cons, List.map_nil, hs, hx, hrun]
  exact h v' w' h2 h3 (below_grown (Below.refl _ _) hown (Below.refl _ _) h3 hbase)

theorem scells_one (l : List (List UInt8)) : ∀ u ∈ scells l, u.oneCell' = true := by
  intro u hu; simp only [scells, List.mem_map] at hu; obtain ⟨_, _, rfl⟩ := hu; rfl
theorem bcells_one (l : List UInt8) : ∀ u ∈ bcells l, u.oneCell' = true := by
  intro u hu; simp only [bcells, List.mem_map] at hu; obtain ⟨_, _, rfl⟩ := hu; rfl

theorem ints_one (l : List Int) : ∀ u ∈ l.map (Value.int .i64), u.oneCell' = true := by
  intro u hu; simp only [List.mem_map] at hu; obtain ⟨_, _, rfl⟩ := hu; rfl

theorem own_max {w : World} {base : Nat} {e : TypeId} {size n : Nat} {v : Value} {xs : List Value} (h : w.ownsRow base e size v n xs) : n ≤ 9223372036854775807 := by
  rcases h.2 with ⟨_, h0⟩ | ⟨g, cap, cur, _, _, _, hn, hm, _⟩
  · omega
  · unfold maxLen at hm; omega
end Go.Proofs.YtkfhkfagmokjpaaDoor

namespace Go.Proofs.YtkfhkfagmokjpaaDoor
open Go.RowKit

/-- no block of the one is the other's -/
def Apart (a b : Value) : Prop := ∀ g, a.ownBlock = some g → b.ownBlock ≠ some g
theorem Apart.symm {a b : Value} (h : Apart a b) : Apart b a := fun g hb ha => h g ha hb
theorem Apart.nil (b : Value) : Apart (.slice none 0 0) b := fun g h => by simp [Value.ownBlock] at h
/-- where an appended row lies: where it lay, or in a block from B on -/
def At (B : Nat) (v v' : Value) : Prop := ∀ g, v'.ownBlock = some g → v.ownBlock = some g ∨ B ≤ g
theorem Apart.step {w : World} {base B : Nat} {e : TypeId} {size n : Nat} {a a' b : Value} {xs : List Value} (h : Apart a b) (hb : w.ownsRow base e size b n xs) (hat : At B a a') (hB : w.heap.size ≤ B) : Apart a' b := by
  intro g hg hbg
  rcases hat g hg with h1 | h1
  · exact h g h1 hbg
  · have := (hb.lt g hbg).2; omega
theorem own_apart {w w' : World} {base : Nat} {e : TypeId} {size n : Nat} {a b : Value} {xs : List Value} (hb : w.ownsRow base e size b n xs) (hg : w.grownBy w' a.ownBlock) (h : Apart a b) : w'.ownsRow base e size b n xs := by
  refine hb.kept hg ?_
  cases hbo : b.ownBlock with
  | none => exact .inl rfl
  | some g => exact .inr fun he => h g he.symm hbo

/-- append of elements that were laid in a new block; and where the row lies then -/
theorem wpList_app_two {P : Program} {w0 : World} {ops : Array Oper} {rest : List Oper} {o : Oper} {a : Act} {Q : Exit → Act → World → Prop} (hgd : o.guard = none) (s x : Operand) {T : TypeId}
    (ho : o.op = .call { callee := .builtin .append, args := #[s, x], argTypes := #[T, T] })
    {E : TypeId} {size bytes : Nat} (hE : EI P T E size bytes) {base n : Nat} {v : Value} {xs : List Value} (hs : a.eval s = v) (hown : w0.ownsRow base E size v n xs)
    {g k c : Nat} {cs : Array Value} (hx : a.eval x = .slice (some ⟨g, 0, none⟩) k c) (hg : g = w0.heap.size) (hcs : cs.size = k * size) (h1 : ∀ u ∈ cs.toList, u.oneCell' = true)
    (h63 : n + k ≤ 1000000000000) (hbytes : bytes ≤ 100) (hbase : base ≤ w0.heap.size)
    (h : ∀ v' w', w'.ownsRow base E size v' (n + k) (xs ++ cs.toList) → Hid (w0.grownBy w' v.ownBlock) → Below base w0 w' → Hid (At w0.heap.size v v') → wpList P ops Q rest (a.put o.dst v') w') :
    wpList P ops Q (o :: rest) a (w0.alloc (.cells cs E)) := by
  obtain ⟨i, z, hi, hz, hs1, hs2, hs3⟩ := hE.info
  refine wpList_append_own_at _ hgd s x T ho base E i z size bytes hE.ht hi hz hs1 hs2 hs3 hE.pos v n xs hs (hown.alloc _) ⟨g, 0, none⟩ k c cs.toList hx (by simpa using hcs) (cells_new w0 cs E hg) h1
    (by unfold maxLen; omega) (by have := Nat.mul_le_mul h63 hbytes; omega) (by simp; omega) ?_
  intro v' w' hw hgr _ hat
  refine h v' w' hw (grown_new hgr) (below_grown (Below.refl _ _) (hown.alloc _) ((Below.refl _ _).alloc hbase _) hgr (by simp; omega)) ?_
  intro q hq
  rcases hat with e | e
  · rw [e] at hq; exact .inl hq
  · rw [e] at hq; simp at hq; exact .inr (by omega)
end Go.Proofs.YtkfhkfagmokjpaaDoor

namespace Go.Proofs.YtkfhkfagmokjpaaDoor
open Go.RowKit

/-- a new block, behind what has left it alone -/
theorem blk {w w1 : World} {o : Obj} (hb : Below (w.alloc o).heap.size (w.alloc o) w1) : w1.heap[w.heap.size]? = some o :=
  (hb.block _ (by simp)).trans (heap_alloc_new w o)
theorem blk_cell {w1 : World} {g : Nat} {cs : Array Value} {t : TypeId} {fr : Nat × Nat} (h : w1.heap[g]? = some (.cells cs t fr)) (j : Nat) : w1.cell? ⟨g, j, none⟩ = cs[j]? := by
  simp [World.cell?, h]
theorem blk_free {w1 : World} {g : Nat} {cs : Array Value} {t : TypeId} (h : w1.heap[g]? = some (.cells cs t (0, 0))) (j : Nat) : w1.frozen? ⟨g, j, none⟩ = false := by
  simp [World.frozen?, h]
/-- what a store into a fresh fence wants to know -/
theorem blk_open {w w1 : World} {a b c d : Value} {t : TypeId} (hb : Below (w.alloc (.cells #[a, b, c, d] t)).heap.size (w.alloc (.cells #[a, b, c, d] t)) w1) :
    w1.cell? ⟨w.heap.size, 0, none⟩ = some a ∧ w1.cell? ⟨w.heap.size, 1, none⟩ = some b ∧ w1.cell? ⟨w.heap.size, 2, none⟩ = some c ∧ w1.cell? ⟨w.heap.size, 3, none⟩ = some d ∧
    ∀ j, w1.frozen? ⟨w.heap.size, j, none⟩ = false := by
  have h := blk hb
  exact ⟨blk_cell h 0, blk_cell h 1, blk_cell h 2, blk_cell h 3, blk_free h⟩

theorem blk_done {w w1 : World} {o : Obj} (hb : Below (w.alloc o).heap.size (w.alloc o) w1) (a b c d : Value) :
    Below w.heap.size w ((((w1.setCell ⟨w.heap.size, 0, none⟩ a).setCell ⟨w.heap.size, 1, none⟩ b).setCell ⟨w.heap.size, 2, none⟩ c).setCell ⟨w.heap.size, 3, none⟩ d) :=
  (((((ext_alloc w o).trans (hb.mono (by simp))).setCell (Nat.le_refl _) _).setCell (Nat.le_refl _) _).setCell (Nat.le_refl _) _).setCell (Nat.le_refl _) _

theorem keep {w w1 : World} {g : Nat} {o : Obj} (h : w.heap[g]? = some o) (hb : Below w.heap.size w w1) : w1.heap[g]? = some o ∧ g < w1.heap.size := by
  have hg : g < w.heap.size := (Array.getElem?_eq_some_iff.1 h).1
  have h1 := hb.block g hg
  have hs := hb.size
  exact ⟨h1.trans h, by omega⟩
theorem four {w1 : World} {g : Nat} {a b c d : Value} {t : TypeId} {fr : Nat × Nat} (h : w1.heap[g]? = some (.cells #[a, b, c, d] t fr)) :
    w1.cell? ⟨g, 0, none⟩ = some a ∧ w1.cell? ⟨g, 1, none⟩ = some b ∧ w1.cell? ⟨g, 2, none⟩ = some c ∧ w1.cell? ⟨g, 3, none⟩ = some d :=
  ⟨blk_cell h 0, blk_cell h 1, blk_cell h 2, blk_cell h 3⟩
/-- three results, the first a struct in a variable -/
theorem results_cell_tmp2 {fn : Func} {p u v : Tmp} {ty : TypeId} (h : fn.results = #[.cell p ty, .tmp u, .tmp v]) (tmps : Array Value) (P : Program) (w : World) :
    (results fn tmps).run P w =
      ((asAddr (tmps.getD p undef)).run P w).andThen fun a w₁ => ((loadVar ty a).run P w₁).andThen fun x w₂ => .ok (.tuple #[x, tmps.getD u undef, tmps.getD v undef]) w₂ := by
  simp only [results, h]
  simp [Sem.run_bind, Result.andThen]
theorem blk_two (w : World) (o p : Obj) : ((w.alloc o).alloc p).heap[w.heap.size + 1]? = some p := by
  have := heap_alloc_new (w.alloc o) p
  rwa [show (w.alloc o).heap.size = w.heap.size + 1 from by simp] at this
theorem blk_one (w : World) (o p : Obj) : ((w.alloc o).alloc p).heap[w.heap.size]? = some o := (keep (heap_alloc_new w o) (ext_alloc _ _)).1
theorem three {w1 : World} {g : Nat} {a b c : Value} {t : TypeId} {fr : Nat × Nat} (h : w1.heap[g]? = some (.cells #[a, b, c] t fr)) :
    w1.cell? ⟨g, 0, none⟩ = some a ∧ w1.cell? ⟨g, 1, none⟩ = some b ∧ w1.cell? ⟨g, 2, none⟩ = some c :=
  ⟨blk_cell h 0, blk_cell h 1, blk_cell h 2⟩
theorem set_three {w : World} {g k : Nat} (h : k ≠ g) (a b c : Value) : (((w.setCell ⟨g, 0, none⟩ a).setCell ⟨g, 1, none⟩ b).setCell ⟨g, 2, none⟩ c).heap[k]? = w.heap[k]? := by
  rw [Below.heap_setCell _ _ _ _ h, Below.heap_setCell _ _ _ _ h, Below.heap_setCell _ _ _ _ h]
theorem below_three {B g : Nat} {w w1 : World} (h : Below B w w1) (hg : B ≤ g) (a b c : Value) : Below B w (((w1.setCell ⟨g, 0, none⟩ a).setCell ⟨g, 1, none⟩ b).setCell ⟨g, 2, none⟩ c) :=
  ((h.setCell hg _).setCell hg _).setCell hg _
end Go.Proofs.YtkfhkfagmokjpaaDoor

namespace Go.Proofs.YtkfhkfagmokjpaaDoor
open Go.RowKit

/-- a struct's block, or a row -/
inductive Part
  | blk (g : Nat) (cs : Array Value) (t : TypeId)
  | row (e : TypeId) (size : Nat) (v : Value) (n : Nat) (xs : List Value)
def Part.holds (w : World) (B : Nat) : Part → Prop
  | .blk g cs t => B ≤ g ∧ w.heap[g]? = some (.cells cs t (0, 0))
  | .row e size v n xs => w.ownsRow B e size v n xs
def Part.block : Part → Option Nat
  | .blk g _ _ => some g
  | .row _ _ v _ _ => v.ownBlock
/-- all parts lie, each in a block of its own -/
structure Hp {K : Type} (w : World) (B : Nat) (m : K → Option Part) : Prop where
  holds : ∀ k a, m k = some a → a.holds w B
  apart : ∀ k k' a a' g, m k = some a → m k' = some a' → a.block = some g → a'.block = some g → k = k'

theorem Part.lt {w : World} {B : Nat} {a : Part} (h : a.holds w B) {g : Nat} (hg : a.block = some g) : B ≤ g ∧ g < w.heap.size := by
  cases a with
  | blk g' cs t =>
    simp only [Part.block, Option.some.injEq] at hg
    subst hg
    exact ⟨h.1, (Array.getElem?_eq_some_iff.1 h.2).1⟩
  | row e size v n xs => exact World.ownsRow.lt (show w.ownsRow B e size v n xs from h) g hg
theorem Part.kept {w w' : World} {B : Nat} {a : Part} (h : a.holds w B) {row : Option Nat} (hg : w.grownBy w' row) (hne : a.block = none ∨ a.block ≠ row) : a.holds w' B := by
  cases a with
  | blk g cs t =>
    refine ⟨h.1, ?_⟩
    rw [hg.block g (Array.getElem?_eq_some_iff.1 h.2).1 (by rcases hne with h | h; · cases h
                                                            · exact h)]
    exact h.2
  | row e size v n xs => exact World.ownsRow.kept (show w.ownsRow B e size v n xs from h) hg hne
theorem grown_ext {w w' : World} (hb : Below w.heap.size w w') (row : Option Nat) : w.grownBy w' row := ⟨hb.os, hb.tape, hb.output, hb.size, fun k hk _ => hb.block k hk⟩
theorem grown_set (w : World) (a : Addr) (v : Value) : w.grownBy (w.setCell a v) (some a.block) := by
  have hb : Below 0 w (w.setCell a v) := (Below.refl 0 w).setCell (Nat.zero_le _) v
  exact ⟨hb.os, hb.tape, hb.output, hb.size, fun k _ hne => Below.heap_setCell _ _ _ _ (fun e => hne (by rw [e]))⟩

section
variable {K : Type} {w w' : World} {B : Nat} {m : K → Option Part}
theorem Hp.ext (h : Hp w B m) (hb : Below w.heap.size w w') : Hp w' B m := by
  refine ⟨fun k a ha => ?_, h.apart⟩
  have := h.holds k a ha
  cases a with
  | blk g cs t => exact ⟨this.1, (hb.block g (Array.getElem?_eq_some_iff.1 this.2).1).trans this.2⟩
  | row e size v n xs => exact own_below (show w.ownsRow B e size v n xs from this) hb
/-- one part is another one: it lies where it lay, or in a new block -/
theorem Hp.put (h : Hp w B m) {m' : K → Option Part} {k : K} {a a' : Part} (hk : m k = some a) (hg : w.grownBy w' a.block) (ha : a'.holds w' B)
    (hat : ∀ g, a'.block = some g → a.block = some g ∨ w.heap.size ≤ g) (hm : ∀ j, j ≠ k → m' j = m j) (hk' : m' k = some a') : Hp w' B m' := by
  refine ⟨fun j b hb => ?_, fun i j b c g hi hj hbi hbj => ?_⟩
  · by_cases hjk : j = k
    · subst hjk; rw [hk'] at hb; cases hb; exact ha
    · rw [hm j hjk] at hb
      refine Part.kept (h.holds j b hb) hg ?_
      cases hbo : b.block with
      | none => exact .inl rfl
      | some g => exact .inr fun he => hjk (h.apart j k b a g hb hk hbo he.symm)
  · by_cases hik : i = k
    · by_cases hjk : j = k
      · rw [hik, hjk]
      · subst hik
        rw [hk'] at hi; cases hi
        rw [hm j hjk] at hj
        rcases hat g hbi with h1 | h1
        · exact h.apart i j a c g hk hj h1 hbj
        · exact absurd (Part.lt (h.holds j c hj) hbj).2 (by omega)
    · by_cases hjk : j = k
      · subst hjk
        rw [hk'] at hj; cases hj
        rw [hm i hik] at hi
        rcases hat g hbj with h1 | h1
        · exact h.apart i j b a g hi hk hbi h1
        · exact absurd (Part.lt (h.holds i b hi) hbi).2 (by omega)
      · rw [hm i hik] at hi; rw [hm j hjk] at hj
        exact h.apart i j b c g hi hj hbi hbj
/-- one part more, in a new block -/
theorem Hp.more (h : Hp w B m) {m' : K → Option Part} {k : K} {a' : Part} (hk : m k = none) (hb : Below w.heap.size w w') (ha : a'.holds w' B)
    (hat : ∀ g, a'.block = some g → w.heap.size ≤ g) (hm : ∀ j, j ≠ k → m' j = m j) (hk' : m' k = some a') : Hp w' B m' := by
  have h' := h.ext hb
  refine ⟨fun j b hb => ?_, fun i j b c g hi hj hbi hbj => ?_⟩
  · by_cases hjk : j = k
    · subst hjk; rw [hk'] at hb; cases hb; exact ha
    · rw [hm j hjk] at hb; exact h'.holds j b hb
  · by_cases hik : i = k
    · by_cases hjk : j = k
      · rw [hik, hjk]
      · subst hik
        rw [hk'] at hi; cases hi
        rw [hm j hjk] at hj
        exact absurd (Part.lt (h.holds j c hj) hbj).2 (by have := hat g hbi; omega)
    · by_cases hjk : j = k
      · subst hjk
        rw [hk'] at hj; cases hj
        rw [hm i hik] at hi
        exact absurd (Part.lt (h.holds i b hi) hbi).2 (by have := hat g hbj; omega)
      · rw [hm i hik] at hi; rw [hm j hjk] at hj
        exact h.apart i j b c g hi hj hbi hbj
/-- a store into a struct -/
theorem Hp.store (h : Hp w B m) {m' : K → Option Part} {k : K} {g j : Nat} {cs : Array Value} {t : TypeId} {v : Value} (hk : m k = some (.blk g cs t))
    (hm : ∀ j, j ≠ k → m' j = m j) (hk' : m' k = some (.blk g (cs.setIfInBounds j v) t)) : Hp (w.setCell ⟨g, j, none⟩ v) B m' := by
  have hh : Part.holds w B (.blk g cs t) := h.holds k _ hk
  exact h.put (a' := .blk g (cs.setIfInBounds j v) t) hk (grown_set w ⟨g, j, none⟩ v) ⟨hh.1, heap_setCell_same w g j cs t v hh.2⟩ (fun _ h => .inl h) hm hk'
theorem Hp.same (h : Hp w B m) {m' : K → Option Part} (hm : ∀ k, m' k = m k) : Hp w B m' := by
  rw [show m' = m from funext hm]; exact h
theorem Hp.base (h : Hp w B m) {k : K} {g : Nat} {cs : Array Value} {t : TypeId} (hk : m k = some (.blk g cs t)) : B ≤ g ∧ g < w.heap.size ∧ w.heap[g]? = some (.cells cs t (0, 0)) := by
  have hh : Part.holds w B (.blk g cs t) := h.holds k _ hk
  exact ⟨hh.1, (Array.getElem?_eq_some_iff.1 hh.2).1, hh.2⟩
theorem Hp.own (h : Hp w B m) {k : K} {e : TypeId} {size n : Nat} {v : Value} {xs : List Value} (hk : m k = some (.row e size v n xs)) : w.ownsRow B e size v n xs := h.holds k _ hk
end

/-- one part in another one's place -/
def upd {K : Type} [DecidableEq K] (m : K → Option Part) (k : K) (a : Part) : K → Option Part := fun j => if j = k then some a else m j
section
variable {K : Type} [DecidableEq K] {w w' : World} {B : Nat} {m : K → Option Part}
theorem upd_same (m : K → Option Part) (k : K) (a : Part) : upd m k a k = some a := if_pos rfl
theorem upd_other (m : K → Option Part) {k j : K} (a : Part) (h : j ≠ k) : upd m k a j = m j := if_neg h
theorem Hp.uput (h : Hp w B m) {k : K} {a : Part} (a' : Part) (hk : m k = some a) (hg : w.grownBy w' a.block) (ha : a'.holds w' B)
    (hat : ∀ g, a'.block = some g → a.block = some g ∨ w.heap.size ≤ g) : Hp w' B (upd m k a') :=
  h.put hk hg ha hat (fun _ hj => upd_other m a' hj) (upd_same m k a')
theorem Hp.umore (h : Hp w B m) {k : K} (a' : Part) (hk : m k = none) (hb : Below w.heap.size w w') (ha : a'.holds w' B)
    (hat : ∀ g, a'.block = some g → w.heap.size ≤ g) : Hp w' B (upd m k a') :=
  h.more hk hb ha hat (fun _ hj => upd_other m a' hj) (upd_same m k a')
theorem Hp.ustore (h : Hp w B m) {k : K} {g : Nat} {cs : Array Value} {t : TypeId} (j : Nat) (v : Value) (hk : m k = some (.blk g cs t)) :
    Hp (w.setCell ⟨g, j, none⟩ v) B (upd m k (.blk g (cs.setIfInBounds j v) t)) :=
  h.store hk (fun _ hj => upd_other m _ hj) (upd_same m k _)
end
theorem ext_grown {w w' : World} {g : Nat} (h : w.grownBy w' (some g)) (hg : w.heap.size ≤ g) : Below w.heap.size w w' :=
  ⟨h.os, h.tape, h.output, h.size, fun k hk => h.block k hk (fun e => by cases e; omega)⟩
theorem Row.take {w : World} {B size n k : Nat} {A : Option Addr} {xs : List Value} (h : Row w B size A n xs) (hk : k ≤ n) : Row w B size A k (xs.take (k * size)) := by
  refine ⟨?_, fun hp => ?_⟩
  · rw [List.length_take, h.1]
    exact Nat.min_eq_left (Nat.mul_le_mul_right size hk)
  · obtain ⟨b, o, hA, hb, hc⟩ := h.2 (by omega)
    refine ⟨b, o, hA, hb, fun j u hj => hc j u ?_⟩
    rw [List.getElem?_take] at hj
    split at hj
    · exact hj
    · cases hj

theorem cell_of {w : World} {g j : Nat} {cs : List Value} {t : TypeId} {fr : Nat × Nat} {v : Value} (h : w.heap[g]? = some (.cells ⟨cs⟩ t fr)) (hj : cs[j]? = some v) : w.cell? ⟨g, j, none⟩ = some v := by
  rw [blk_cell h j]; simpa using hj
/-- a row in a new block -/
theorem Row.freshN (w : World) (E : TypeId) (C : Array Value) {size n : Nat} {xs : List Value} (hn : C.size = n * size) (hx : C.toList = xs) :
    Row (w.alloc (.cells C E)) (w.alloc (.cells C E)).heap.size size (some ⟨w.heap.size, 0, none⟩) n xs := by
  subst hx
  refine ⟨by simpa using hn, fun _ => ⟨w.heap.size, 0, rfl, by simp, fun j u hu => ?_⟩⟩
  rw [blk_cell (heap_alloc_new w _)]
  simpa using hu
/-- append of a row, nil or not; and where it lies then -/
theorem run_app_row_at {P : Program} {w : World} {T ty : TypeId} {E : TypeId} {size bytes : Nat} (hE : EI P T E size bytes) {base n : Nat} {v : Value} {xs : List Value} (hown : w.ownsRow base E size v n xs)
    {B m c : Nat} {A : Option Addr} {news : List Value} (hr : Row w B size A m news) (h1 : ∀ u ∈ news, u.oneCell' = true) (h63 : n + m ≤ 1000000000000) (hbytes : bytes ≤ 100) (hbase : base ≤ w.heap.size) :
    ∃ v' w', (Builtin.append_ #[T, T] ty #[v, .slice A m c]).run P w = .ok v' w' ∧ w'.ownsRow base E size v' (n + m) (xs ++ news) ∧ w.grownBy w' v.ownBlock ∧ At w.heap.size v v' := by
  obtain ⟨i, z, hi, hz, hs1, hs2, hs3⟩ := hE.info
  rcases Nat.eq_zero_or_pos m with h0 | h0
  · subst h0
    have hn : news = [] := List.eq_nil_of_length_eq_zero (by simpa using hr.1)
    subst hn
    refine ⟨v, w, ?_, by simpa using hown, World.grownBy.refl w _, fun _ h => .inl h⟩
    rcases A with _ | ad
    · rcases hown.2 with ⟨rfl, rfl⟩ | ⟨g, cap, cur, rfl, _, _, hnc, _⟩
      · simp [Builtin.append_, run_underlying hE.ht, sizeOf, typeInfo, hi, Builtin.lenOf, Builtin.firstCells]
      · simp [Builtin.append_, run_underlying hE.ht, sizeOf, typeInfo, hi, Builtin.lenOf, Builtin.firstCells, hnc, storeCells]
    · rcases hown.2 with ⟨rfl, rfl⟩ | ⟨g, cap, cur, rfl, _, _, hnc, _⟩
      · simp [Builtin.append_, run_underlying hE.ht, sizeOf, typeInfo, hi, Builtin.lenOf, Builtin.firstCells, loadCells, loadCellsFrom]
      · simp [Builtin.append_, run_underlying hE.ht, sizeOf, typeInfo, hi, Builtin.lenOf, Builtin.firstCells, loadCells, loadCellsFrom, hnc, storeCells]
  · obtain ⟨b, o, rfl, _, hc⟩ := hr.2 h0
    have hcell : ∀ j u, news[j]? = some u → w.cell? ((⟨b, o, none⟩ : Addr).add j) = some u := by
      intro j u hu
      have : (⟨b, o, none⟩ : Addr).add j = ⟨b, o + j, none⟩ := by unfold Addr.add; split <;> simp_all
      rw [this]; exact hc j u hu
    obtain ⟨v', w', h2, h3, h4, _, h5⟩ := run_append_own_at (P := P) w base T ty E i z size bytes hE.ht hi hz hs1 hs2 hs3 hE.pos v n xs hown ⟨b, o, none⟩ m c news hr.1 hcell h1
      (by unfold maxLen; omega) (by have := Nat.mul_le_mul h63 hbytes; omega) hbase
    refine ⟨v', w', h2, h3, h4, fun q hq => ?_⟩
    rcases h5 with e | e
    · rw [e] at hq; exact .inl hq
    · rw [e] at hq; simp at hq; exact .inr (by omega)

theorem wp_app_row_at {P : Program} {w : World} {o : Oper} {a : Act} {K : Act → World → Prop} {Q : Exit → Act → World → Prop} (s x : Operand) {T : TypeId}
    (ho : o.op = .call { callee := .builtin .append, args := #[s, x], argTypes := #[T, T] })
    {E : TypeId} {size bytes : Nat} (hE : EI P T E size bytes) {base n : Nat} {v : Value} {xs : List Value} (hs : a.eval s = v) (hown : w.ownsRow base E size v n xs)
    {B m c : Nat} {A : Option Addr} {news : List Value} (hx : a.eval x = .slice A m c) (hr : Row w B size A m news) (h1 : ∀ u ∈ news, u.oneCell' = true) (h63 : n + m ≤ 1000000000000) (hbytes : bytes ≤ 100) (hbase : base ≤ w.heap.size)
    (h : ∀ v' w', w'.ownsRow base E size v' (n + m) (xs ++ news) → Hid (w.grownBy w' v.ownBlock) → Below base w w' → Hid (At w.heap.size v v') → K (a.put o.dst v') w') : o.wp P a w K Q := by
  obtain ⟨v', w', hrun, h2, h3, h4⟩ := run_app_row_at (ty := o.type) (c := c) hE hown hr h1 h63 hbytes hbase
  unfold Oper.wp execOp
  simp only [ho, resolve, invoke, builtin, Sem.run_bind, Sem.run_pure, Result.andThen_ok, List.map_toArray, List.map_cons, List.map_nil, hs, hx, hrun]
  exact h v' w' h2 h3 (below_grown (Below.refl _ _) hown (Below.refl _ _) h3 hbase) h4
theorem wpList_app_row_at {P : Program} {w : World} {ops : Array Oper} {rest : List Oper} {o : Oper} {a : Act} {Q : Exit → Act → World → Prop} (hgd : o.guard = none) (s x : Operand) {T : TypeId}
    (ho : o.op = .call { callee := .builtin .append, args := #[s, x], argTypes := #[T, T] })
    {E : TypeId} {size bytes : Nat} (hE : EI P T E size bytes) {base n : Nat} {v : Value} {xs : List Value} (hs : a.eval s = v) (hown : w.ownsRow base E size v n xs)
    {B m c : Nat} {A : Option Addr} {news : List Value} (hx : a.eval x = .slice A m c) (hr : Row w B size A m news) (h1 : ∀ u ∈ news, u.oneCell' = true) (h63 : n + m ≤ 1000000000000) (hbytes : bytes ≤ 100) (hbase : base ≤ w.heap.size)
    (h : ∀ v' w', w'.ownsRow base E size v' (n + m) (xs ++ news) → Hid (w.grownBy w' v.ownBlock) → Below base w w' → Hid (At w.heap.size v v') → wpList P ops Q rest (a.put o.dst v') w') :
    wpList P ops Q (o :: rest) a w := by
  refine wpList_plain hgd fun K hK => ?_
  exact wp_app_row_at s x ho hE hs hown hx hr h1 h63 hbytes hbase (fun v' w' h2 h3 h4 h5 => hK _ _ (h v' w' h2 h3 h4 h5))
end Go.Proofs.YtkfhkfagmokjpaaDoor

namespace Go.Proofs.YtkfhkfagmokjpaaDoor
open Go.RowKit

def betB (r a b : Int) : Bool := decide (a ≤ r ∧ r ≤ b)
def blankB (r : Int) : Bool := decide ((9 ≤ r ∧ r ≤ 13) ∨ r = 32 ∨ r = 160 ∨ r = 8195 ∨ r = 12288)
def asciiB (r : Int) : Bool := decide ((33 ≤ r ∧ r ≤ 47) ∨ (58 ≤ r ∧ r ≤ 64) ∨ (91 ≤ r ∧ r ≤ 96) ∨ (123 ≤ r ∧ r ≤ 126))
def punctB (r : Int) : Bool := decide (((33 ≤ r ∧ r ≤ 47) ∨ (58 ≤ r ∧ r ≤ 64) ∨ (91 ≤ r ∧ r ≤ 96) ∨ (123 ≤ r ∧ r ≤ 126)) ∨ r = 161 ∨ r = 167 ∨ (8208 ≤ r ∧ r ≤ 8231) ∨ r = 12289 ∨ r = 12290)
def letterB (r : Int) : Bool := decide ((97 ≤ r ∧ r ≤ 122) ∨ (65 ≤ r ∧ r ≤ 90) ∨ (192 ≤ r ∧ r ≠ 65533 ∧ ¬ (r = 8195 ∨ r = 12288) ∧ ¬ ((8208 ≤ r ∧ r ≤ 8231) ∨ r = 12289 ∨ r = 12290)))
def smallR (r : Int) : Int := if 65 ≤ r ∧ r ≤ 90 then r + 32 else r

theorem ret_bool {a b : Bool} (h : a = b) : Ending.returned (.bool a) = .returned (.bool b) := by rw [h]

set_option maxHeartbeats 1000000 in
theorem between_any (r a b : Int) (w : World) :
    Calls Tryd.prog 67 #[.int .i32 r, .int .i32 a, .int .i32 b] w fun e w' => e = .returned (.bool (betB r a b)) ∧ w = w' := by
  go_enter Tryd.func67, Tryd.ntmps67
  go_wp2
  all_goals go_ret
  all_goals (refine ⟨ret_bool ?_, rfl⟩; (try simp only [beq_iff_eq, beq_eq_false_iff_ne, ne_eq] at *); rw [Bool.eq_iff_iff]; simp [betB]; try omega)

set_option maxHeartbeats 1000000 in
theorem blank_any (r : Int) (w : World) :
    Calls Tryd.prog 50 #[.int .i32 r] w fun e w' => e = .returned (.bool (blankB r)) ∧ w = w' := by
  go_enter Tryd.func50, Tryd.ntmps50
  go_wp2
  all_goals go_ret
  all_goals (refine ⟨ret_bool ?_, rfl⟩; (try simp only [beq_iff_eq, beq_eq_false_iff_ne, ne_eq] at *); rw [Bool.eq_iff_iff]; simp [blankB]; try omega)

set_option maxHeartbeats 1000000 in
theorem punct_any (r : Int) (w : World) :
    Calls Tryd.prog 56 #[.int .i32 r] w fun e w' => e = .returned (.bool (punctB r)) ∧ w = w' := by
  go_enter Tryd.func56, Tryd.ntmps56
  go_wp2_with (first | (go_at_call 67; refine (between_any _ _ _ _).mono ?_; rintro e w' ⟨rfl, rfl⟩))
  all_goals go_ret
  all_goals (refine ⟨ret_bool ?_, rfl⟩; (try simp only [beq_iff_eq, beq_eq_false_iff_ne, ne_eq] at *); rw [Bool.eq_iff_iff]; simp_all [punctB, betB]; try omega)

theorem ret_i32 {a b : Int} (h : a = b) : Ending.returned (.int .i32 a) = .returned (.int .i32 b) := by rw [h]

end Go.Proofs.YtkfhkfagmokjpaaDoor

namespace Go.Proofs.YtkfhkfagmokjpaaDoor.Cl

def isGap (b : UInt8) : Bool := b == 32 || b == 9
/-- the column behind b, which begins at column c -/
def step (c : Nat) (b : UInt8) : Nat := if b = 9 then c - c % 4 + 4 else c + 1
theorem step_tab (c : Nat) : step c 9 = c - c % 4 + 4 := by simp [step]
theorem step_one {b : UInt8} (c : Nat) (h : b ≠ 9) : step c b = c + 1 := by simp [step, h]
theorem step_le (c : Nat) (b : UInt8) : c < step c b ∧ step c b ≤ c + 4 := by
  unfold step; split
  · have : c % 4 < 4 := Nat.mod_lt _ (by omega)
    omega
  · omega

/-- the blanks and tabs from column c on until n columns are reached: the columns, the bytes -/
def lead (n : Int) : List UInt8 → Nat → Nat × Nat
  | [], c => (c, 0)
  | b :: r, c => if (c : Int) < n ∧ isGap b = true then ((lead n r (step c b)).1, (lead n r (step c b)).2 + 1) else (c, 0)

theorem lead_go {n : Int} {b : UInt8} {c : Nat} (r : List UInt8) (h : (c : Int) < n) (hg : isGap b = true) : lead n (b :: r) c = ((lead n r (step c b)).1, (lead n r (step c b)).2 + 1) := by
  rw [lead, if_pos ⟨h, hg⟩]
theorem lead_full {n : Int} {c : Nat} (l : List UInt8) (h : ¬ (c : Int) < n) : lead n l c = (c, 0) := by
  cases l with
  | nil => rfl
  | cons b r => rw [lead, if_neg (fun k => h k.1)]
theorem lead_word {n : Int} {b : UInt8} {c : Nat} (r : List UInt8) (h : isGap b = false) : lead n (b :: r) c = (c, 0) := by
  rw [lead, if_neg (fun k => by rw [h] at k; exact absurd k.2 (by simp))]

theorem lead_le (n : Int) (l : List UInt8) (c : Nat) : (lead n l c).2 ≤ l.length ∧ c + (lead n l c).2 ≤ (lead n l c).1 ∧ (lead n l c).1 ≤ c + 4 * (lead n l c).2 := by
  induction l generalizing c with
  | nil => simp [lead]
  | cons b r ih =>
    rw [lead]
    have h1 := ih (step c b)
    have h2 := step_le c b
    split
    · simp only [List.length_cons]; omega
    · simp

/-- what stands at place k, begun at column c -/
def fin (n : Int) (l : List UInt8) (k c : Nat) : Nat × Nat := ((lead n (l.drop k) c).1, k + (lead n (l.drop k) c).2)
theorem fin_zero (n : Int) (l : List UInt8) : fin n l 0 0 = lead n l 0 := by simp [fin]
theorem fin_step {n : Int} {l : List UInt8} {k c : Nat} (hk : k < l.length) (hc : (c : Int) < n) (hg : isGap l[k] = true) : fin n l (k + 1) (step c l[k]) = fin n l k c := by
  unfold fin; rw [List.drop_eq_getElem_cons hk, lead_go _ hc hg]; simp only [Prod.mk.injEq, true_and]; omega
theorem fin_full {n : Int} {k c : Nat} (l : List UInt8) (h : ¬ (c : Int) < n) : fin n l k c = (c, k) := by
  unfold fin; rw [lead_full _ h]; rfl
theorem fin_word {n : Int} {l : List UInt8} {k c : Nat} (hk : k < l.length) (hg : isGap l[k] = false) : fin n l k c = (c, k) := by
  unfold fin; rw [List.drop_eq_getElem_cons hk, lead_word _ hg]; rfl
theorem fin_end {n : Int} {l : List UInt8} {k c : Nat} (hk : ¬ k < l.length) : fin n l k c = (c, k) := by
  unfold fin; rw [List.drop_eq_nil_of_le (by omega)]; rfl

/-- without the first n columns -/
def strip (n : Int) (l : List UInt8) : List UInt8 := List.replicate ((lead n l 0).1 - n.toNat) 32 ++ l.drop (lead n l 0).2
theorem lead_neg {n : Int} (l : List UInt8) (h : n ≤ 0) : lead n l 0 = (0, 0) := lead_full l (by omega)
theorem strip_neg {n : Int} (l : List UInt8) (h : n ≤ 0) : strip n l = l := by
  unfold strip; rw [lead_neg l h]; simp
/-- how far past n a tab may lead -/
theorem lead_past (n : Int) (l : List UInt8) (c : Nat) (h : (c : Int) ≤ n + 3) : ((lead n l c).1 : Int) ≤ n + 3 := by
  induction l generalizing c with
  | nil => simpa [lead] using h
  | cons b r ih =>
    rw [lead]
    split
    · rename_i hc
      have h2 := step_le c b
      exact ih (step c b) (by have := hc.1; omega)
    · exact h
theorem strip_len (n : Int) (l : List UInt8) : (strip n l).length ≤ l.length + 3 := by
  by_cases h : n ≤ 0
  · rw [strip_neg l h]; omega
  · have h1 := lead_past n l 0 (by omega)
    unfold strip
    simp only [List.length_append, List.length_replicate, List.length_drop]
    omega

/-- all columns -/
def width : List UInt8 → Nat → Nat
  | [], c => c
  | b :: r, c => width r (step c b)
theorem width_at {l : List UInt8} {k c : Nat} (hk : k < l.length) : width (l.drop (k + 1)) (step c l[k]) = width (l.drop k) c := by
  rw [List.drop_eq_getElem_cons hk]; rfl
theorem width_end {l : List UInt8} {k c : Nat} (hk : ¬ k < l.length) : width (l.drop k) c = c := by
  rw [List.drop_eq_nil_of_le (by omega)]; rfl

/-- a number that no column reaches -/
def inf : Int := 9223372036854775807
end Go.Proofs.YtkfhkfagmokjpaaDoor.Cl

namespace Go.Proofs.YtkfhkfagmokjpaaDoor.Cl

/-- no column of so short a text reaches inf -/
def small (l : List UInt8) (c : Nat) : Prop := c + 4 * l.length < 9223372036854775807

theorem small_lt {l : List UInt8} {c : Nat} (h : small l c) : (c : Int) < inf := by unfold small at h; unfold inf; omega
theorem small_step {b : UInt8} {r : List UInt8} {c : Nat} (h : small (b :: r) c) : small r (step c b) := by
  have := step_le c b; unfold small at *; simp only [List.length_cons] at h; omega

/-- blanks in front -/
theorem lead_blanks {n : Int} (j : Nat) (r : List UInt8) (c : Nat) (h : (c : Int) + j ≤ n) : lead n (List.replicate j 32 ++ r) c = ((lead n r (c + j)).1, (lead n r (c + j)).2 + j) := by
  induction j generalizing c with
  | zero => simp
  | succ j ih =>
    rw [List.replicate_succ, List.cons_append, lead_go _ (by omega) (by rfl), step_one c (by decide), ih (c + 1) (by omega)]
    have : c + 1 + j = c + (j + 1) := by omega
    rw [this]; simp only [Prod.mk.injEq, true_and]; omega
theorem width_blanks (j : Nat) (r : List UInt8) (c : Nat) : width (List.replicate j 32 ++ r) c = width r (c + j) := by
  induction j generalizing c with
  | zero => simp
  | succ j ih =>
    rw [List.replicate_succ, List.cons_append, width, step_one c (by decide), ih (c + 1)]
    congr 1; omega
theorem width_ge (l : List UInt8) (c : Nat) : c ≤ width l c := by
  induction l generalizing c with
  | nil => exact Nat.le_refl _
  | cons b r ih => have h1 := ih (step c b); have h2 := step_le c b; rw [width]; omega

/-- tabs as blanks up to the next stop -/
def fl : List UInt8 → Nat → List UInt8
  | [], _ => []
  | b :: r, c => if b = 9 then List.replicate (4 - c % 4) 32 ++ fl r (c + (4 - c % 4)) else b :: fl r (c + 1)
theorem fl_tab (r : List UInt8) (c : Nat) : fl (9 :: r) c = List.replicate (4 - c % 4) 32 ++ fl r (c + (4 - c % 4)) := by simp [fl]
theorem fl_one {b : UInt8} (r : List UInt8) (c : Nat) (h : b ≠ 9) : fl (b :: r) c = b :: fl r (c + 1) := by simp [fl, h]
theorem step_tab' (c : Nat) : step c 9 = c + (4 - c % 4) := by
  rw [step_tab]; have : c % 4 < 4 := Nat.mod_lt _ (by omega); have := Nat.mod_le c 4; omega

theorem fl_len (l : List UInt8) (c : Nat) : (fl l c).length ≤ 4 * l.length := by
  induction l generalizing c with
  | nil => simp [fl]
  | cons b r ih =>
    by_cases h : b = 9
    · subst h
      rw [fl_tab]
      have := ih (c + (4 - c % 4))
      simp only [List.length_append, List.length_replicate, List.length_cons]; omega
    · rw [fl_one _ _ h]
      have := ih (c + 1)
      simp only [List.length_cons]; omega

theorem fl_all (l : List UInt8) (c : Nat) (hs : small l c) :
    (lead inf (fl l c) c).1 = (lead inf l c).1 ∧ (lead inf (fl l c) c).1 = c + (lead inf (fl l c) c).2 ∧ width l c = c + (fl l c).length ∧ width (fl l c) c = c + (fl l c).length ∧
      ((lead inf l c).2 = l.length ↔ (lead inf (fl l c) c).2 = (fl l c).length) := by
  induction l generalizing c with
  | nil => simp [fl, lead, width]
  | cons b r ih =>
    have hlt := small_lt hs
    have hi := ih (step c b) (small_step hs)
    by_cases h : b = 9
    · subst h
      rw [step_tab'] at hi
      obtain ⟨j, hj⟩ : ∃ j, 4 - c % 4 = j := ⟨_, rfl⟩
      rw [hj] at hi
      have hc4 : c % 4 < 4 := Nat.mod_lt _ (by omega)
      have hji : (c : Int) + j ≤ inf := by unfold small at hs; unfold inf; simp only [List.length_cons] at hs; omega
      rw [fl_tab, hj, lead_blanks j _ c hji, width_blanks, lead_go _ hlt (by rfl), width, step_tab', hj]
      simp only [List.length_append, List.length_replicate, List.length_cons]
      obtain ⟨h1, h2, h3, h4, h5⟩ := hi
      refine ⟨h1, by omega, by omega, by omega, ?_⟩
      constructor
      · intro h; have := h5.1 (by omega); omega
      · intro h; have := h5.2 (by omega); omega
    · rw [step_one c h] at hi
      rw [fl_one _ _ h, width, width, step_one c h]
      obtain ⟨h1, h2, h3, h4, h5⟩ := hi
      cases hg : isGap b with
      | true =>
        rw [lead_go _ hlt hg, lead_go _ hlt hg, step_one c h]
        simp only [List.length_cons]
        refine ⟨h1, by omega, by omega, by omega, ?_⟩
        constructor
        · intro h; have := h5.1 (by omega); omega
        · intro h; have := h5.2 (by omega); omega
      | false =>
        rw [lead_word _ hg, lead_word _ hg]
        simp only [List.length_cons]
        refine ⟨trivial, by omega, by omega, by omega, by constructor <;> (intro h; omega)⟩

/-- the blanks and tabs at a text's beginning -/
def gaps : List UInt8 → Nat
  | [] => 0
  | b :: r => if isGap b then gaps r + 1 else 0
theorem gaps_go {b : UInt8} (r : List UInt8) (h : isGap b = true) : gaps (b :: r) = gaps r + 1 := by simp [gaps, h]
theorem gaps_word {b : UInt8} (r : List UInt8) (h : isGap b = false) : gaps (b :: r) = 0 := by simp [gaps, h]
theorem gaps_le (l : List UInt8) : gaps l ≤ l.length := by
  induction l with
  | nil => simp [gaps]
  | cons b r ih => simp only [gaps, List.length_cons]; split <;> omega
theorem gaps_drop (l : List UInt8) (k : Nat) (h : k ≤ gaps l) : gaps (l.drop k) = gaps l - k := by
  induction l generalizing k with
  | nil => simp [gaps]
  | cons b r ih =>
    cases k with
    | zero => simp
    | succ k =>
      cases hg : isGap b with
      | true => rw [gaps_go _ hg] at h ⊢; rw [List.drop_succ_cons, ih k (by omega)]; omega
      | false => rw [gaps_word _ hg] at h; omega
theorem lead_gaps (n : Int) (l : List UInt8) (c : Nat) : (lead n l c).2 ≤ gaps l := by
  induction l generalizing c with
  | nil => simp [lead]
  | cons b r ih =>
    rw [lead]
    split
    · rename_i h; have := ih (step c b); rw [gaps_go _ h.2]; simp only; omega
    · simp
theorem lead_inf (l : List UInt8) (c : Nat) (hs : small l c) : (lead inf l c).2 = gaps l := by
  induction l generalizing c with
  | nil => rfl
  | cons b r ih =>
    cases hg : isGap b with
    | true => rw [lead_go _ (small_lt hs) hg, gaps_go _ hg]; simp only; rw [ih _ (small_step hs)]
    | false => rw [lead_word _ hg, gaps_word _ hg]
theorem lead_none (n : Int) (r : List UInt8) (c : Nat) (h : gaps r = 0) : lead n r c = (c, 0) := by
  cases r with
  | nil => rfl
  | cons b r =>
    cases hg : isGap b with
    | true => rw [gaps_go _ hg] at h; omega
    | false => exact lead_word _ hg
/-- where all is taken, more columns take no more -/
theorem lead_all {n m : Int} (l : List UInt8) (c : Nat) (hnm : n ≤ m) (h : (lead n l c).2 = gaps l) : lead m l c = lead n l c := by
  induction l generalizing c with
  | nil => rfl
  | cons b r ih =>
    cases hg : isGap b with
    | true =>
      by_cases hc : (c : Int) < n
      · rw [lead_go _ hc hg, gaps_go _ hg] at h
        rw [lead_go _ hc hg, lead_go _ (by omega) hg, ih _ (by simp only at h; omega)]
      · rw [lead_full _ hc, gaps_go _ hg] at h; simp only at h; omega
    | false => rw [lead_word _ hg, lead_word _ hg]
/-- where not all is taken, the columns are reached -/
theorem lead_some (n : Int) (l : List UInt8) (c : Nat) (h : (lead n l c).2 < gaps l) : n ≤ (lead n l c).1 := by
  induction l generalizing c with
  | nil => simp [gaps] at h
  | cons b r ih =>
    cases hg : isGap b with
    | true =>
      by_cases hc : (c : Int) < n
      · rw [lead_go _ hc hg, gaps_go _ hg] at h
        rw [lead_go _ hc hg]
        exact ih _ (by simp only at h; omega)
      · rw [lead_full _ hc]; simp only; omega
    | false => rw [gaps_word _ hg] at h; omega
theorem lead_more {n m : Int} (l : List UInt8) (c : Nat) (hnm : n ≤ m) : (lead n l c).2 ≤ (lead m l c).2 ∧ (lead m l c).1 ≤ (lead n l c).1 + 4 * ((lead m l c).2 - (lead n l c).2) := by
  induction l generalizing c with
  | nil => simp [lead]
  | cons b r ih =>
    by_cases hc : (c : Int) < n
    · cases hg : isGap b with
      | true =>
        have := ih (step c b)
        rw [lead_go _ hc hg, lead_go _ (by omega) hg]; simp only; omega
      | false => rw [lead_word _ hg, lead_word _ hg]; simp
    · have := lead_le m (b :: r) c
      rw [lead_full _ hc]; simp only; omega

/-- blanks ahead of a text that begins with none, stripped -/
theorem strip_flat (m a : Nat) (R : List UInt8) (h : gaps R = 0) : strip (m : Int) (List.replicate a 32 ++ R) = List.replicate (a - m) 32 ++ R := by
  by_cases hm : a ≤ m
  · unfold strip
    rw [lead_blanks a R 0 (by omega), lead_none _ R _ h]
    simp [Nat.sub_eq_zero_of_le hm]
  · have he : List.replicate a (32 : UInt8) ++ R = List.replicate m 32 ++ (List.replicate (a - m) 32 ++ R) := by
      rw [← List.append_assoc, List.replicate_append_replicate]; congr 2; omega
    unfold strip
    rw [he, lead_blanks m _ 0 (by omega), lead_full _ (by omega)]
    simp
theorem lead_flat (a : Nat) (R : List UInt8) (h : gaps R = 0) (ha : a ≤ 1000) : lead inf (List.replicate a 32 ++ R) 0 = (a, a) := by
  rw [lead_blanks a R 0 (by unfold inf; omega), lead_none _ R _ h]; simp

/-- the rest behind the blanks and tabs -/
def rest (l : List UInt8) : List UInt8 := l.drop (gaps l)
theorem rest_gaps (l : List UInt8) : gaps (rest l) = 0 := by unfold rest; rw [gaps_drop l _ (Nat.le_refl _)]; omega

/-- what strip gives, and what stands at its beginning -/
theorem strip_lead (l : List UInt8) (N : Nat) (hl : l.length ≤ 60) :
    ∃ i, (lead inf (strip (N : Int) l) 0).2 = i ∧ i ≤ (strip (N : Int) l).length ∧ (strip (N : Int) l).drop i = rest l ∧ i = ((lead (N : Int) l 0).1 - N) + (gaps l - (lead (N : Int) l 0).2) := by
  have h1 := lead_past (N : Int) l 0 (by omega)
  have h2 := lead_gaps (N : Int) l 0
  have h3 := gaps_le l
  have h4 := lead_le (N : Int) l 0
  obtain ⟨C, K, hCK⟩ : ∃ C K, lead (N : Int) l 0 = (C, K) := ⟨_, _, rfl⟩
  rw [hCK] at h1 h2 h4 ⊢
  simp only at h1 h2 h4 ⊢
  have hst : strip (N : Int) l = List.replicate (C - N) 32 ++ l.drop K := by unfold strip; rw [hCK]; simp
  have hle : (lead inf (strip (N : Int) l) 0).2 = (C - N) + (gaps l - K) := by
    rw [hst, lead_blanks _ _ 0 (by unfold inf; omega)]
    simp only
    rw [lead_inf _ _ (by unfold small; rw [List.length_drop]; omega), gaps_drop l K h2]; omega
  refine ⟨_, hle, ?_, ?_, rfl⟩
  · rw [hst, List.length_append, List.length_replicate, List.length_drop]; omega
  · rw [hst, List.drop_append, List.length_replicate, List.drop_eq_nil_of_le (by simp), List.nil_append, List.drop_drop]
    unfold rest; congr 1; omega

/-- nothing is left ahead of a text stripped of N columns just where it is stripped of all -/
theorem strip_done (l : List UInt8) (N : Nat) (hl : l.length ≤ 60) (hN : N ≤ 31) : ((lead inf (strip (N : Int) l) 0).1 = 0 ↔ strip 99 l = strip (N : Int) l) := by
  obtain ⟨i, hi, _, hdrop, hii⟩ := strip_lead l N hl
  have hle := lead_le inf (strip (N : Int) l) 0
  rw [hi] at hle
  have h1 := lead_past (N : Int) l 0 (by omega)
  have h2 := lead_gaps (N : Int) l 0
  have h3 := lead_past 99 l 0 (by omega)
  have h4 := lead_gaps 99 l 0
  have h5 := lead_some 99 l 0
  have h6 := lead_more (n := (N : Int)) (m := 99) l 0 (by omega)
  have h7 := lead_le 99 l 0
  have h8 := lead_le (N : Int) l 0
  constructor
  · intro h0
    have hi0 : i = 0 := by omega
    have hall : (lead (N : Int) l 0).2 = gaps l := by omega
    rw [hi0] at hdrop
    have e := lead_all (n := (N : Int)) (m := 99) l 0 (by omega) hall
    unfold strip
    rw [e]
    have c1 : (lead (N : Int) l 0).1 - ((N : Nat) : Int).toNat = 0 := by omega
    have c2 : (lead (N : Int) l 0).1 - (99 : Int).toNat = 0 := by omega
    rw [c1, c2]
  · intro he
    by_cases hd : (lead 99 l 0).2 = gaps l ∧ (lead 99 l 0).1 ≤ 99
    · have hw : strip 99 l = rest l := by
        unfold strip rest
        rw [hd.1, show (lead 99 l 0).1 - (99 : Int).toNat = 0 from by omega]; rfl
      rw [← he, hw, lead_none _ _ _ (rest_gaps l)]
    · exfalso
      have hlen := congrArg List.length he
      unfold strip at hlen
      simp only [List.length_append, List.length_replicate, List.length_drop] at hlen
      have : (99 : Int) ≤ (lead 99 l 0).1 := by
        by_cases hx : (lead 99 l 0).2 < gaps l
        · exact h5 hx
        · have : (lead 99 l 0).2 = gaps l := by omega
          omega
      omega
end Go.Proofs.YtkfhkfagmokjpaaDoor.Cl

namespace Go.Proofs.YtkfhkfagmokjpaaDoor.Fn
open Go.Proofs.YtkfhkfagmokjpaaDoor.Cl

/-- how many of c are at the beginning -/
def run (c : UInt8) : List UInt8 → Nat
  | [] => 0
  | b :: r => if b = c then run c r + 1 else 0
theorem run_go {c b : UInt8} (r : List UInt8) (h : b = c) : run c (b :: r) = run c r + 1 := by simp [run, h]
theorem run_stop {c b : UInt8} (r : List UInt8) (h : b ≠ c) : run c (b :: r) = 0 := by simp [run, h]
theorem run_le (c : UInt8) (l : List UInt8) : run c l ≤ l.length := by
  induction l with
  | nil => simp [run]
  | cons b r ih => simp only [run, List.length_cons]; split <;> omega
theorem run_at {c : UInt8} {l : List UInt8} {k : Nat} (hk : k < l.length) (h : l[k] = c) : run c (l.drop k) = run c (l.drop (k + 1)) + 1 := by
  rw [List.drop_eq_getElem_cons hk, run_go _ h]
theorem run_no {c : UInt8} {l : List UInt8} {k : Nat} (hk : k < l.length) (h : l[k] ≠ c) : run c (l.drop k) = 0 := by
  rw [List.drop_eq_getElem_cons hk, run_stop _ h]
theorem run_end {c : UInt8} {l : List UInt8} {k : Nat} (hk : ¬ k < l.length) : run c (l.drop k) = 0 := by
  rw [List.drop_eq_nil_of_le (by omega)]; rfl
theorem run_rep (c : UInt8) (n : Nat) (r : List UInt8) : run c (List.replicate n c ++ r) = n + run c r := by
  induction n with
  | zero => simp
  | succ n ih => rw [List.replicate_succ, List.cons_append, run_go _ rfl, ih]; omega
/-- how many stand from a place on -/
def runAt (c : UInt8) (l : List UInt8) (k : Nat) : Nat := run c (l.drop k)

/-- the longest run of the sign 96 -/
def lg : List UInt8 → Nat
  | [] => 0
  | b :: r => max (run 96 (b :: r)) (lg r)
theorem lg_cons (b : UInt8) (r : List UInt8) : lg (b :: r) = max (run 96 (b :: r)) (lg r) := rfl
theorem lg_le (l : List UInt8) : lg l ≤ l.length := by
  induction l with
  | nil => simp [lg]
  | cons b r ih => have := run_le 96 (b :: r); rw [lg_cons, List.length_cons] at *; omega
theorem run_lg (l : List UInt8) : run 96 l ≤ lg l := by
  cases l with
  | nil => simp [run]
  | cons b r => rw [lg_cons]; omega
theorem lg_drop (l : List UInt8) (k : Nat) : lg (l.drop k) ≤ lg l := by
  induction l generalizing k with
  | nil => simp
  | cons b r ih =>
    cases k with
    | zero => simp
    | succ k => have := ih k; rw [List.drop_succ_cons, lg_cons]; omega
theorem lg_skip (l : List UInt8) : lg l = max (run 96 l) (lg (l.drop (run 96 l + 1))) := by
  induction l with
  | nil => simp [lg, run]
  | cons b r ih =>
    rw [lg_cons]
    by_cases h : b = 96
    · rw [run_go _ h, List.drop_succ_cons, ih]; omega
    · rw [run_stop _ h]; simp
theorem lg_free (l : List UInt8) (k : Nat) (h : ∀ j, (hj : j < l.length) → j < k → l[j] ≠ 96) : lg l = lg (l.drop k) := by
  induction k generalizing l with
  | zero => simp
  | succ k ih =>
    cases l with
    | nil => simp
    | cons b r =>
      have h0 : b ≠ 96 := h 0 (by simp) (by omega)
      rw [lg_cons, run_stop _ h0, List.drop_succ_cons, ← ih r (fun j hj hk => by
        have := h (j + 1) (by simp; omega) (by omega)
        simpa using this)]
      omega

/-- the longest of some texts -/
def lgs : List (List UInt8) → Nat
  | [] => 0
  | s :: r => max (lg s) (lgs r)
theorem lgs_at {ls : List (List UInt8)} {k : Nat} (hk : k < ls.length) : lgs (ls.drop k) = max (lg ls[k]) (lgs (ls.drop (k + 1))) := by
  rw [List.drop_eq_getElem_cons hk]; rfl
theorem lgs_end {ls : List (List UInt8)} {k : Nat} (hk : ¬ k < ls.length) : lgs (ls.drop k) = 0 := by
  rw [List.drop_eq_nil_of_le (by omega)]; rfl
theorem lgs_mem {ls : List (List UInt8)} {s : List UInt8} (h : s ∈ ls) : lg s ≤ lgs ls := by
  induction ls with
  | nil => cases h
  | cons t r ih =>
    rcases List.mem_cons.1 h with rfl | h
    · simp only [lgs]; omega
    · have := ih h; simp only [lgs]; omega
theorem lgs_le {ls : List (List UInt8)} {n : Nat} (h : ∀ s ∈ ls, s.length ≤ n) : lgs ls ≤ n := by
  induction ls with
  | nil => simp [lgs]
  | cons t r ih =>
    have h1 := h t (by simp)
    have h2 := lg_le t
    have h3 := ih fun s hs => h s (by simp [hs])
    simp only [lgs]; omega
/-- how many signs a fence needs -/
def long (ls : List (List UInt8)) : Nat := max (lgs ls + 1) 3

/-- without the blanks and tabs ahead -/
def front : List UInt8 → List UInt8
  | [] => []
  | b :: r => if isGap b then front r else b :: r
theorem front_gap {b : UInt8} (r : List UInt8) (h : isGap b = true) : front (b :: r) = front r := by simp [front, h]
theorem front_word {b : UInt8} (r : List UInt8) (h : isGap b = false) : front (b :: r) = b :: r := by simp [front, h]
theorem front_len (l : List UInt8) : (front l).length ≤ l.length := by
  induction l with
  | nil => simp [front]
  | cons b r ih => simp only [front]; split <;> simp only [List.length_cons] <;> omega
/-- without those at the end -/
def back : List UInt8 → List UInt8
  | [] => []
  | b :: r => if back r = [] ∧ isGap b = true then [] else b :: back r
theorem back_gap {b : UInt8} {r : List UInt8} (h : back r = []) (hb : isGap b = true) : back (b :: r) = [] := by simp [back, h, hb]
theorem back_word {b : UInt8} (r : List UInt8) (hb : isGap b = false) : back (b :: r) = b :: back r := by simp [back, hb]
theorem back_more {b : UInt8} {r : List UInt8} (h : back r ≠ []) : back (b :: r) = b :: back r := by simp [back, h]
theorem back_len (l : List UInt8) : (back l).length ≤ l.length := by
  induction l with
  | nil => simp [back]
  | cons b r ih => simp only [back]; split <;> simp only [List.length_cons, List.length_nil] <;> omega
theorem back_snoc_gap (l : List UInt8) {x : UInt8} (h : isGap x = true) : back (l ++ [x]) = back l := by
  induction l with
  | nil => rw [List.nil_append, back_gap rfl h]; rfl
  | cons b r ih => rw [List.cons_append, back, back, ih]
theorem back_snoc_word (l : List UInt8) {x : UInt8} (h : isGap x = false) : back (l ++ [x]) = l ++ [x] := by
  induction l with
  | nil => rw [List.nil_append, back_word _ h]; rfl
  | cons b r ih => rw [List.cons_append, back_more (by rw [ih]; simp), ih]
/-- without those around -/
def trim (l : List UInt8) : List UInt8 := back (front l)
theorem trim_len (l : List UInt8) : (trim l).length ≤ l.length := Nat.le_trans (back_len _) (front_len _)
theorem front_back (l : List UInt8) : front (back l) = back (front l) := by
  induction l with
  | nil => rfl
  | cons b r ih =>
    cases hb : isGap b with
    | true =>
      rw [front_gap _ hb, ← ih]
      by_cases hr : back r = []
      · rw [back_gap hr hb, hr]
      · rw [back_more hr, front_gap _ hb]
    | false => rw [back_word _ hb, front_word _ hb, front_word _ hb, back_word _ hb]

/-- the sign, how many, how far in, the info -/
structure Op where
  c : UInt8
  n : Nat
  ind : Nat
  info : List UInt8

/-- how many columns a line is in, and what is behind them -/
def cl (l : List UInt8) : Nat := (lead inf l 0).1
def rs (l : List UInt8) : List UInt8 := l.drop (lead inf l 0).2

/-- the info behind the signs -/
def info (r : List UInt8) (c : UInt8) : List UInt8 := trim (r.drop (run c r))
/-- the fence that a line begins -/
def begins (l : List UInt8) : Option Op :=
  match rs l with
  | [] => none
  | c :: r => if cl l ≤ 3 ∧ (c = 96 ∨ c = 126) ∧ 3 ≤ run c (c :: r) ∧ ¬ (c = 96 ∧ 96 ∈ info (c :: r) c) then some ⟨c, run c (c :: r), cl l, info (c :: r) c⟩ else none
theorem begins_nil {l : List UInt8} (h : rs l = []) : begins l = none := by unfold begins; rw [h]
theorem begins_yes {l : List UInt8} {c : UInt8} {r : List UInt8} (h : rs l = c :: r) (h1 : cl l ≤ 3) (h2 : c = 96 ∨ c = 126) (h3 : 3 ≤ run c (c :: r)) (h4 : ¬ (c = 96 ∧ 96 ∈ info (c :: r) c)) :
    begins l = some ⟨c, run c (c :: r), cl l, info (c :: r) c⟩ := by unfold begins; rw [h]; simp only; rw [if_pos ⟨h1, h2, h3, h4⟩]
theorem begins_no {l : List UInt8} {c : UInt8} {r : List UInt8} (h : rs l = c :: r) (h1 : ¬ (cl l ≤ 3 ∧ (c = 96 ∨ c = 126) ∧ 3 ≤ run c (c :: r) ∧ ¬ (c = 96 ∧ 96 ∈ info (c :: r) c))) :
    begins l = none := by unfold begins; rw [h]; simp only; rw [if_neg h1]

/-- nothing but blanks and tabs -/
def emp (l : List UInt8) : Bool := decide ((lead inf l 0).2 = l.length)
/-- a line that ends a fence of the sign c, n of it -/
def ends (c : UInt8) (n : Int) (l : List UInt8) : Bool := decide (1 ≤ n ∧ cl l ≤ 3 ∧ n ≤ (run c (rs l) : Int)) && emp ((rs l).drop (run c (rs l)))
theorem ends_no {c : UInt8} {n : Int} {l : List UInt8} (h : ¬ (1 ≤ n ∧ cl l ≤ 3 ∧ n ≤ (run c (rs l) : Int))) : ends c n l = false := by unfold ends; rw [decide_eq_false h]; rfl
theorem ends_is {c : UInt8} {n : Int} {l : List UInt8} (h : 1 ≤ n ∧ cl l ≤ 3 ∧ n ≤ (run c (rs l) : Int)) : ends c n l = emp ((rs l).drop (run c (rs l))) := by unfold ends; rw [decide_eq_true h]; rfl
end Go.Proofs.YtkfhkfagmokjpaaDoor.Fn

namespace Go.Proofs.YtkfhkfagmokjpaaDoor.Cd

/-- a line's end as a blank -/
def nl (b : UInt8) : UInt8 := if b = 10 then 32 else b
def flat (l : List UInt8) : List UInt8 := l.map nl
theorem flat_len (l : List UInt8) : (flat l).length = l.length := by simp [flat]
def blanks (l : List UInt8) : Bool := l.all (· == 32)
/-- without the blanks that are first and last, if both are, and not all are -/
def clean (l : List UInt8) : List UInt8 :=
  if blanks (flat l) = false ∧ (flat l).getD 0 0 = 32 ∧ (flat l).getD ((flat l).length - 1) 0 = 32 then mid (flat l) 1 ((flat l).length - 1) else flat l
theorem clean_len (l : List UInt8) : (clean l).length ≤ l.length := by
  have h := flat_len l
  unfold clean
  split
  · unfold Go.Proofs.YtkfhkfagmokjpaaDoor.mid; rw [List.length_take, List.length_drop]; omega
  · omega
theorem flat_take {l : List UInt8} {k : Nat} (h : k < l.length) : flat (l.take (k + 1)) = flat (l.take k) ++ [nl l[k]] := by
  rw [List.take_succ_eq_append_getElem h]; unfold flat; rw [List.map_append]; rfl
theorem blanks_take {l : List UInt8} {k : Nat} (h : k < l.length) : blanks (flat (l.take (k + 1))) = (blanks (flat (l.take k)) && nl l[k] == 32) := by
  rw [flat_take h]; simp [blanks]

/-- the first row of just n of ` from a place on, by at most so many steps -/
def findF : Nat → List UInt8 → Nat → Nat → Option Nat
  | 0, _, _, _ => none
  | f + 1, l, n, i => if i < l.length then (if Fn.run 96 (l.drop i) = n then some i else findF f l n (i + max (Fn.run 96 (l.drop i)) 1)) else none
def find (l : List UInt8) (n i : Nat) : Option Nat := findF (l.length + 1 - i) l n i
theorem findF_fuel : ∀ (f g : Nat) (l : List UInt8) (n i : Nat), l.length < f + i → l.length < g + i → findF f l n i = findF g l n i
  | 0, 0, _, _, _, _, _ => rfl
  | 0, g + 1, l, n, i, h, _ => by unfold findF; rw [if_neg (by omega)]
  | f + 1, 0, l, n, i, _, h => by unfold findF; rw [if_neg (by omega)]
  | f + 1, g + 1, l, n, i, hf, hg => by
    unfold findF
    rw [findF_fuel f g l n _ (by omega) (by omega)]
theorem find_end {l : List UInt8} {n i : Nat} (h : l.length ≤ i) : find l n i = none := by
  unfold find
  cases hf : l.length + 1 - i with
  | zero => rfl
  | succ f => unfold findF; rw [if_neg (by omega)]
theorem find_step {l : List UInt8} {n i : Nat} (h : i < l.length) : find l n i = if Fn.run 96 (l.drop i) = n then some i else find l n (i + max (Fn.run 96 (l.drop i)) 1) := by
  unfold find
  obtain ⟨f, hf⟩ : ∃ f, l.length + 1 - i = f + 1 := ⟨l.length - i, by omega⟩
  rw [hf]
  conv => lhs; unfold findF
  rw [if_pos h, findF_fuel f _ l n _ (by omega) (Nat.lt_of_lt_of_le (show l.length < (l.length + 1 - (i + max (Fn.run 96 (l.drop i)) 1)) + (i + max (Fn.run 96 (l.drop i)) 1) by omega) (Nat.le_refl _))]
theorem find_yes {l : List UInt8} {n i : Nat} (h : i < l.length) (hr : Fn.run 96 (l.drop i) = n) : find l n i = some i := by rw [find_step h, if_pos hr]
theorem find_no {l : List UInt8} {n i : Nat} (h : i < l.length) (hr : Fn.run 96 (l.drop i) ≠ n) : find l n i = find l n (i + max (Fn.run 96 (l.drop i)) 1) := by rw [find_step h, if_neg hr]

/-- within a row all are signs; behind it none is -/
theorem runs_in {c : UInt8} : ∀ {l : List UInt8} {j : Nat}, j < Fn.run c l → l.getD j 0 = c
  | [], j, h => by simp [Fn.run] at h
  | b :: r, j, h => by
    by_cases hb : b = c
    · rw [Fn.run_go r hb] at h
      cases j with
      | zero => simpa using hb
      | succ j => have := runs_in (c := c) (l := r) (j := j) (by omega); simpa using this
    · rw [Fn.run_stop r hb] at h; omega
theorem run_behind {c : UInt8} : ∀ {l : List UInt8}, Fn.run c l < l.length → l.getD (Fn.run c l) 0 ≠ c
  | [], h => by simp at h
  | b :: r, h => by
    by_cases hb : b = c
    · rw [Fn.run_go r hb] at h ⊢
      have := run_behind (c := c) (l := r) (by simp at h; omega)
      simpa using this
    · rw [Fn.run_stop r hb]; simpa using hb
theorem run_drop_behind (c : UInt8) (l : List UInt8) (i : Nat) : Fn.run c (l.drop (i + Fn.run c (l.drop i))) = 0 := by
  by_cases h : i + Fn.run c (l.drop i) < l.length
  · refine Fn.run_no h ?_
    have hb := run_behind (c := c) (l := l.drop i) (by rw [List.length_drop]; omega)
    simpa [List.getD, List.getElem?_eq_getElem h] using hb
  · exact Fn.run_end h
theorem run_one {c : UInt8} {l : List UInt8} (hn : Fn.run c l = 0) (h : 0 < l.length) : l.getD 0 0 ≠ c := by
  have := run_behind (c := c) (l := l) (by omega)
  rwa [hn] at this

/-- what is found: a row of n, a row's beginning, and no such row ahead -/
theorem find_spec {l : List UInt8} {n : Nat} (hn : 1 ≤ n) : ∀ (f i p : Nat), findF f l n i = some p →
    i ≤ p ∧ p < l.length ∧ Fn.run 96 (l.drop p) = n ∧ (p = i ∨ l.getD (p - 1) 0 ≠ 96) ∧ ∀ j, i ≤ j → j < p → (j = i ∨ l.getD (j - 1) 0 ≠ 96) → Fn.run 96 (l.drop j) ≠ n
  | 0, _, _, h => by simp [findF] at h
  | f + 1, i, p, h => by
    unfold findF at h
    by_cases hi : i < l.length
    · rw [if_pos hi] at h
      by_cases hr : Fn.run 96 (l.drop i) = n
      · rw [if_pos hr] at h
        injection h with h; subst h
        exact ⟨Nat.le_refl _, hi, hr, .inl rfl, fun j h1 h2 => by omega⟩
      · rw [if_neg hr] at h
        obtain ⟨k, hk⟩ : ∃ k, k = Fn.run 96 (l.drop i) := ⟨_, rfl⟩
        rw [← hk] at h hr
        obtain ⟨g1, g2, g3, g4, g5⟩ := find_spec hn f _ p h
        refine ⟨by omega, g2, g3, ?_, ?_⟩
        · rcases g4 with g4 | g4
          · right
            rcases Nat.eq_zero_or_pos k with h0 | h0
            · have : p - 1 = i := by omega
              rw [this]
              have hb := run_one (c := 96) (l := l.drop i) (by omega) (by rw [List.length_drop]; omega)
              simpa [List.getD] using hb
            · exfalso
              have hb := run_drop_behind 96 l i
              rw [← hk, show i + k = p by omega] at hb
              omega
          · exact .inr g4
        · intro j h1 h2 h3
          by_cases hji : j = i
          · subst hji; rw [← hk]; exact hr
          · by_cases hjn : j < i + max k 1
            · exfalso
              rcases h3 with h3 | h3
              · exact hji h3
              · have hin := runs_in (c := 96) (l := l.drop i) (j := j - 1 - i) (by omega)
                rw [List.getD_eq_getElem?_getD, List.getElem?_drop, show i + (j - 1 - i) = j - 1 by omega] at hin
                exact h3 (by rw [List.getD_eq_getElem?_getD]; exact hin)
            · refine g5 j (by omega) h2 ?_
              rcases h3 with h3 | h3
              · exact absurd h3 hji
              · exact .inr h3
    · rw [if_neg hi] at h; simp at h

/-- a row's beginning with n signs, and no place with n ahead: it is found -/
theorem find_is {l : List UInt8} {n p : Nat} (hp : p < l.length) (hr : Fn.run 96 (l.drop p) = n) (hb : l.getD (p - 1) 0 ≠ 96) :
    ∀ (d i : Nat), i + d = p → (∀ j, i ≤ j → j < p → Fn.run 96 (l.drop j) ≠ n) → find l n i = some p := by
  intro d
  induction d using Nat.strongRecOn with
  | ind d ih =>
    intro i hd hno
    rcases Nat.eq_zero_or_pos d with h0 | h0
    · have : i = p := by omega
      subst this
      exact find_yes hp hr
    · have hi : i < l.length := by omega
      rw [find_no hi (hno i (Nat.le_refl _) (by omega))]
      obtain ⟨k, hk⟩ : ∃ k, k = Fn.run 96 (l.drop i) := ⟨_, rfl⟩
      rw [← hk]
      have hle : i + max k 1 ≤ p := by
        rcases Nat.lt_or_ge p (i + max k 1) with h1 | h1
        · exfalso
          have hin := runs_in (c := 96) (l := l.drop i) (j := p - 1 - i) (by omega)
          rw [List.getD_eq_getElem?_getD, List.getElem?_drop, show i + (p - 1 - i) = p - 1 by omega] at hin
          exact hb (by rw [List.getD_eq_getElem?_getD]; exact hin)
        · exact h1
      exact ih (p - (i + max k 1)) (by omega) _ (by omega) fun j h1 h2 => hno j (by omega) h2

/-- a span that begins at a place: what is between, cleaned, and where it ends -/
def opens (l : List UInt8) (at_ : Int) : Bool := decide (0 ≤ at_ ∧ at_.toNat < l.length ∧ l.getD at_.toNat 0 = 96 ∧ (at_.toNat = 0 ∨ l.getD (at_.toNat - 1) 0 ≠ 96))
def span (l : List UInt8) (at_ : Int) : Option (List UInt8 × Nat) :=
  if opens l at_ = true then (find l (Fn.run 96 (l.drop at_.toNat)) (at_.toNat + Fn.run 96 (l.drop at_.toNat))).map fun i => (clean (mid l (at_.toNat + Fn.run 96 (l.drop at_.toNat)) i), i + Fn.run 96 (l.drop at_.toNat)) else none
theorem span_off {l : List UInt8} {at_ : Int} (h : opens l at_ = false) : span l at_ = none := by unfold span; rw [if_neg (by rw [h]; decide)]
theorem span_on {l : List UInt8} {at_ : Int} {n : Nat} (h : opens l at_ = true) (hn : Fn.run 96 (l.drop at_.toNat) = n) :
    span l at_ = (find l n (at_.toNat + n)).map fun i => (clean (mid l (at_.toNat + n) i), i + n) := by unfold span; rw [if_pos h, hn]
theorem opens_run {l : List UInt8} {at_ : Int} (h : opens l at_ = true) : 1 ≤ Fn.run 96 (l.drop at_.toNat) := by
  unfold opens at h
  have h := of_decide_eq_true h
  have hk := h.2.1
  have : l[at_.toNat] = 96 := by simpa [List.getD, List.getElem?_eq_getElem hk] using h.2.2.1
  rw [Fn.run_at hk this]; omega

/-- of a span: as many signs at its end as at its beginning, something between, no such row within -/
theorem span_spec {l : List UInt8} {at_ : Int} {t : List UInt8} {e : Nat} (h : span l at_ = some (t, e)) :
    1 ≤ Fn.run 96 (l.drop at_.toNat) ∧ e ≤ l.length ∧ at_.toNat + 2 * Fn.run 96 (l.drop at_.toNat) + 1 ≤ e ∧ Fn.run 96 (l.drop (e - Fn.run 96 (l.drop at_.toNat))) = Fn.run 96 (l.drop at_.toNat) ∧
      l.getD (e - Fn.run 96 (l.drop at_.toNat) - 1) 0 ≠ 96 ∧ (∀ i, at_.toNat + Fn.run 96 (l.drop at_.toNat) ≤ i → i < e - Fn.run 96 (l.drop at_.toNat) → l.getD (i - 1) 0 ≠ 96 → Fn.run 96 (l.drop i) ≠ Fn.run 96 (l.drop at_.toNat)) ∧ t.length ≤ l.length := by
  cases ho : opens l at_ with
  | false => rw [span_off ho] at h; simp at h
  | true =>
    have hn := opens_run ho
    obtain ⟨n, hne⟩ : ∃ n, n = Fn.run 96 (l.drop at_.toNat) := ⟨_, rfl⟩
    rw [span_on ho hne.symm] at h
    rw [← hne] at hn ⊢
    obtain ⟨p, hp, hpe⟩ := Option.map_eq_some_iff.1 h
    injection hpe with e1 e2
    subst e1 e2
    obtain ⟨g1, g2, g3, g4, g5⟩ := find_spec hn _ _ _ hp
    have hb := run_drop_behind 96 l at_.toNat
    rw [← hne] at hb
    have hne2 : p ≠ at_.toNat + n := by intro hc; rw [hc, hb] at g3; omega
    have g4' : l.getD (p - 1) 0 ≠ 96 := by
      rcases g4 with g4 | g4
      · exact absurd g4 hne2
      · exact g4
    have hle := Fn.run_le 96 (l.drop p)
    rw [List.length_drop, g3] at hle
    rw [show p + n - n = p by omega]
    refine ⟨hn, by omega, by omega, g3, g4', fun i h1 h2 h3 => g5 i h1 h2 (.inr h3), ?_⟩
    have := clean_len (mid l (at_.toNat + n) p)
    rw [mid_len (by omega)] at this
    omega

/-- signs between rows of more signs than are within -/
def tick (n : Nat) : List UInt8 := List.replicate n 96
theorem run_le_stop {c : UInt8} {l : List UInt8} {j : Nat} (h : l.getD j 0 ≠ c) : Fn.run c l ≤ j := by
  rcases Nat.lt_or_ge j (Fn.run c l) with h1 | h1
  · exact absurd (runs_in h1) h
  · exact h1
theorem span_between {n : Nat} {s t : List UInt8} (hn : 1 ≤ n) (hs : s.length ≤ n ∨ (s.length ≤ n + 2 ∧ s.getD 1 0 ≠ 96 ∧ 1 < s.length)) (h0 : 0 < s.length) (hf : s.getD 0 0 ≠ 96) (hl : s.getD (s.length - 1) 0 ≠ 96) (ht : t.getD 0 0 ≠ 96 ∨ t = []) :
    span (tick n ++ s ++ tick n ++ t) 0 = some (clean s, 2 * n + s.length) := by
  obtain ⟨L, hL⟩ : ∃ L, L = tick n ++ s ++ tick n ++ t := ⟨_, rfl⟩
  have htl : (tick n).length = n := by simp [tick]
  have hlen : L.length = n + s.length + n + t.length := by rw [hL]; simp [htl]; omega
  have g0 : ∀ j, j < n → L.getD j 0 = 96 := fun j hj => by
    rw [hL, List.append_assoc, List.append_assoc, List.getD_eq_getElem?_getD, List.getElem?_append_left (by omega)]; simp [tick, hj]
  have g1 : ∀ j, j < s.length → L.getD (n + j) 0 = s.getD j 0 := fun j hj => by
    rw [hL, List.append_assoc, List.append_assoc]
    simp only [List.getD_eq_getElem?_getD]
    rw [List.getElem?_append_right (by omega), htl, show n + j - n = j by omega, List.getElem?_append_left hj]
  have r0 : Fn.run 96 L = n := by
    have hrep : Fn.run 96 (s ++ (tick n ++ t)) = 0 := by
      match s, h0, hf with
      | b :: r, _, hf => rw [List.cons_append]; exact Fn.run_stop _ (by simpa using hf)
    rw [hL, List.append_assoc, List.append_assoc, tick, Fn.run_rep]
    rw [tick] at hrep
    rw [hrep]; omega
  have r2 : Fn.run 96 (L.drop (n + s.length)) = n := by
    have hd : L.drop (n + s.length) = tick n ++ t := by
      rw [hL, List.append_assoc (tick n ++ s), List.drop_append_of_le_length (by simp [htl]), List.drop_eq_nil_of_le (by simp [htl])]; rfl
    rw [hd, tick, Fn.run_rep]
    rcases ht with ht | ht
    · match t, ht with
      | [], _ => rfl
      | b :: r, ht => rw [Fn.run_stop _ (by simpa using ht)]; rfl
    · rw [ht]; rfl
  have ho : opens L 0 = true := by
    unfold opens
    exact decide_eq_true ⟨by omega, by simp; omega, g0 0 (by omega), .inl rfl⟩
  have hfi : find L n n = some (n + s.length) := by
    have hx := g1 (s.length - 1) (by omega)
    refine find_is (by omega) r2 (by rw [show n + s.length - 1 = n + (s.length - 1) by omega, hx]; exact hl) s.length n rfl ?_
    intro j h1 h2 h3
    have hb : L.getD (n + (s.length - 1)) 0 ≠ 96 := by rw [hx]; exact hl
    have := run_le_stop (c := 96) (l := L.drop j) (j := n + (s.length - 1) - j) (by
      rw [List.getD_eq_getElem?_getD, List.getElem?_drop, show j + (n + (s.length - 1) - j) = n + (s.length - 1) by omega, ← List.getD_eq_getElem?_getD]; exact hb)
    rcases hs with hs | ⟨hs, hs1, hs2⟩
    · omega
    · rcases (show j = n ∨ j = n + 1 ∨ n + 2 ≤ j by omega) with rfl | rfl | h4
      · have hz := run_le_stop (c := 96) (l := L.drop j) (j := 0) (by
          rw [List.getD_eq_getElem?_getD, List.getElem?_drop, ← List.getD_eq_getElem?_getD, show j + 0 = j + 0 from rfl, g1 0 h0]; exact hf)
        omega
      · have hz := run_le_stop (c := 96) (l := L.drop (n + 1)) (j := 0) (by
          rw [List.getD_eq_getElem?_getD, List.getElem?_drop, ← List.getD_eq_getElem?_getD, show n + 1 + 0 = n + 1 from rfl, g1 1 hs2]; exact hs1)
        omega
      · omega
  have hz : ((0 : Int).toNat) = 0 := rfl
  rw [← hL, span_on (n := n) ho (by rw [hz, List.drop_zero]; exact r0), hz, Nat.zero_add, hfi]
  have hm : mid L n (n + s.length) = s := by
    unfold Go.Proofs.YtkfhkfagmokjpaaDoor.mid
    rw [hL, List.append_assoc, List.append_assoc, List.drop_append_of_le_length (by omega), List.drop_eq_nil_of_le (by omega), List.nil_append, show n + s.length - n = s.length by omega, List.take_left']
    rfl
  simp only [Option.map_some, hm, Option.some.injEq, Prod.mk.injEq, true_and]
  omega
theorem clean_word {s : List UInt8} (h0 : 0 < s.length) (h : s.getD 0 0 ≠ 32 ∧ s.getD 0 0 ≠ 10) : clean s = flat s := by
  unfold clean
  rw [if_neg]
  rintro ⟨_, h2, _⟩
  match s, h0, h with
  | b :: r, _, h =>
    simp only [List.getD_cons_zero] at h
    simp only [flat, List.map_cons, List.getD_cons_zero, nl] at h2
    split at h2
    · rename_i hb; exact h.2 hb
    · exact h.1 h2
theorem clean_blanks {s : List UInt8} (h0 : 0 < s.length) (h : s.getD 0 0 ≠ 32 ∧ s.getD 0 0 ≠ 10) : clean (32 :: s ++ [32]) = flat s := by
  have hfl : flat (32 :: s ++ [32]) = 32 :: flat s ++ [32] := by simp [flat, nl]
  unfold clean
  rw [hfl, if_pos]
  · have hl : (32 :: flat s ++ [32]).length = s.length + 2 := by simp [flat_len]
    unfold Go.Proofs.YtkfhkfagmokjpaaDoor.mid
    rw [hl]
    simp only [List.cons_append, List.drop_succ_cons, List.drop_zero, show s.length + 2 - 1 - 1 = (flat s).length by rw [flat_len]; omega]
    exact List.take_left' rfl
  · refine ⟨?_, by simp, ?_⟩
    · match s, h0, h with
      | b :: r, _, h =>
        simp only [List.getD_cons_zero] at h
        have hb : (nl b == 32) = false := by
          unfold nl
          rw [if_neg h.2]
          simpa using h.1
        simp [blanks, flat, hb]
    · have hl : (32 :: flat s ++ [32]).length - 1 = (32 :: flat s).length := by simp
      rw [hl]
      simp [List.getD]
theorem law_spans {T : List UInt8} (h : T.length ≤ 26) (h0 : 0 < T.length) (hT0 : T.getD 0 0 = 120) (hT1 : T.getD (T.length - 1) 0 = 120) :
    span (tick 26 ++ T ++ tick 26) 0 = some (flat T, T.length + 52) ∧ span (tick 26 ++ (32 :: T ++ [32]) ++ tick 26 ++ [121]) 0 = some (flat T, T.length + 54) := by
  have hw : T.getD 0 0 ≠ 32 ∧ T.getD 0 0 ≠ 10 := by rw [hT0]; decide
  have s1 := span_between (n := 26) (s := T) (t := []) (by omega) (.inl h) h0 (by rw [hT0]; decide) (by rw [hT1]; decide) (.inr rfl)
  have ht1 : (32 :: T ++ [32]).getD 1 0 ≠ 96 := by
    match T, h0, hT0 with
    | b :: r, _, hT0 =>
      simp only [List.getD_cons_zero] at hT0
      subst hT0
      simp
  have s2 := span_between (n := 26) (s := 32 :: T ++ [32]) (t := [121]) (by omega) (.inr ⟨by simp; omega, ht1, by simp⟩) (by simp) (by simp) (by
    have e : (32 :: T ++ [32]).length - 1 = (32 :: T).length := by simp
    rw [e]; simp [List.getD]) (.inl (by decide))
  rw [clean_word h0 hw, List.append_nil] at s1
  rw [clean_blanks h0 hw] at s2
  have e2 : 2 * 26 + (32 :: T ++ [32]).length = T.length + 54 := by simp; omega
  rw [e2] at s2
  rw [show 2 * 26 + T.length = T.length + 52 by omega] at s1
  exact ⟨s1, s2⟩
end Go.Proofs.YtkfhkfagmokjpaaDoor.Cd

namespace Go.Proofs.YtkfhkfagmokjpaaDoor
open Go.RowKit

theorem run_byte {S : List UInt8} {i : Nat} (h : i < S.length) (w : World) :
    (Instr.index 9 (.string (bs S)) (.int .i64 (i : Int))).run Tryd.prog w = .ok (.int .u8 (S[i].toNat : Int)) w := by
  have hs := bs_size S
  rw [run_index_string w 9 (bs S) .i64 (i : Int) Tryd.underlying9, dif_pos ⟨by omega, by omega⟩]
  rfl

theorem byte_eq {b : UInt8} {n : Nat} (hn : n < 256) (h : b = UInt8.ofNat n) : ((b.toNat : Int) == (n : Int)) = true := by
  subst h; simp; omega

theorem byte_ne {b : UInt8} {n : Nat} (hn : n < 256) (h : b ≠ UInt8.ofNat n) : ((b.toNat : Int) == (n : Int)) = false := by
  rw [beq_eq_false_iff_ne]; intro he; apply h
  have : b.toNat = n := by omega
  subst this; simp

/-- the two tests of a blank or a tab -/
theorem gap_tests (b : UInt8) : (((b.toNat : Int) == (32 : Int)) = true ∧ Cl.isGap b = true) ∨ (((b.toNat : Int) == (32 : Int)) = false ∧ ((b.toNat : Int) == (9 : Int)) = true ∧ Cl.isGap b = true) ∨ (((b.toNat : Int) == (32 : Int)) = false ∧ ((b.toNat : Int) == (9 : Int)) = false ∧ Cl.isGap b = false) := by
  by_cases h : b = 32
  · exact .inl ⟨byte_eq (n := 32) (by omega) h, by subst h; rfl⟩
  · have h1 := byte_ne (n := 32) (by omega) h
    by_cases h' : b = 9
    · exact .inr (.inl ⟨h1, byte_eq (n := 9) (by omega) h', by subst h'; rfl⟩)
    · exact .inr (.inr ⟨h1, byte_ne (n := 9) (by omega) h', by simp [Cl.isGap, h, h']⟩)

/-- a text from a place on -/
theorem run_from {S : List UInt8} {i : Nat} (h : i ≤ S.length) (w : World) :
    (Instr.slice 9 (.string (bs S)) (some (.int .i64 (i : Int))) none none).run Tryd.prog w = .ok (.string (bs (S.drop i))) w := by
  have hs := bs_size S
  have he : (bs S).extract i (bs S).size = bs (S.drop i) := by
    apply ByteArray.ext
    simp only [bs, ByteArray.data_extract, List.extract_toArray, List.extract_eq_take_drop]
    rw [List.take_of_length_le (by simp [ByteArray.size])]
  have h1 : (0 : Int) ≤ (i : Int) ∧ (i : Int) ≤ ((bs S).size : Int) := by omega
  simp [Instr.slice, run_underlying Tryd.underlying9, Instr.sliceBounds, run_sliceBound, h1, he, go_sem]

/-- a text up to a place -/
theorem run_upto {S : List UInt8} {i : Nat} (h : i ≤ S.length) (w : World) :
    (Instr.slice 9 (.string (bs S)) none (some (.int .i64 (i : Int))) none).run Tryd.prog w = .ok (.string (bs (S.take i))) w := by
  have hs := bs_size S
  have he : (bs S).extract 0 i = bs (S.take i) := by
    apply ByteArray.ext
    simp only [bs, ByteArray.data_extract, List.extract_toArray, List.extract_eq_take_drop]
    simp
  have h1 : (0 : Int) ≤ (i : Int) ∧ (i : Int) ≤ ((bs S).size : Int) := by omega
  simp [Instr.slice, run_underlying Tryd.underlying9, Instr.sliceBounds, run_sliceBound, h1, he, go_sem]

theorem byte_same {a b : UInt8} (h : a = b) : ((a.toNat : Int) == (b.toNat : Int)) = true := by subst h; simp

theorem byte_diff {a b : UInt8} (h : a ≠ b) : ((a.toNat : Int) == (b.toNat : Int)) = false := by
  rw [beq_eq_false_iff_ne]; intro he; exact h (UInt8.toNat_inj.1 (by omega))

theorem ret_i64 {a b : Int} (h : a = b) : Ending.returned (.int .i64 a) = .returned (.int .i64 b) := by rw [h]

/-- a text from a place to another -/
theorem run_mid {S : List UInt8} {i j : Nat} (h : i ≤ j) (hj : j ≤ S.length) (w : World) :
    (Instr.slice 9 (.string (bs S)) (some (.int .i64 (i : Int))) (some (.int .i64 (j : Int))) none).run Tryd.prog w = .ok (.string (bs (mid S i j))) w := by
  have hs := bs_size S
  have he : (bs S).extract i j = bs (mid S i j) := by
    apply ByteArray.ext
    simp only [bs, ByteArray.data_extract, List.extract_toArray, List.extract_eq_take_drop, mid]
  have hr := run_slice_string (P := Tryd.prog) w 9 (bs S) .i64 .i64 (i : Int) (j : Int) Tryd.underlying9 (by omega) (by omega) (by omega)
  rw [hr, show ((i : Int)).toNat = i from by omega, show ((j : Int)).toNat = j from by omega, he]
/-- a byte of a text, as a text -/
theorem run_one_at {S : List UInt8} {i : Nat} (h : i < S.length) {v u : Int} (hv : v = (i : Int)) (hu : u = (i : Int) + 1) (w : World) :
    (Instr.slice 9 (.string (bs S)) (some (.int .i64 v)) (some (.int .i64 u)) none).run Tryd.prog w = .ok (.string (bs [S[i]])) w := by
  subst hv hu
  have hs := bs_size S
  have he : (bs S).extract i (i + 1) = bs [S[i]] := by
    apply ByteArray.ext
    simp only [bs, ByteArray.data_extract, List.extract_toArray, List.extract_eq_take_drop]
    rw [List.drop_eq_getElem_cons h, show i + 1 - i = 1 from by omega]; rfl
  have hr := run_slice_string (P := Tryd.prog) w 9 (bs S) .i64 .i64 (i : Int) ((i : Int) + 1) Tryd.underlying9 (by omega) (by omega) (by omega)
  rw [hr, show ((i : Int)).toNat = i from by omega, show ((i : Int) + 1).toNat = i + 1 from by omega, he]
theorem run_one {S : List UInt8} {i : Nat} (h : i < S.length) (w : World) :
    (Instr.slice 9 (.string (bs S)) (some (.int .i64 (i : Int))) (some (.int .i64 ((i : Int) + 1))) none).run Tryd.prog w = .ok (.string (bs [S[i]])) w := run_one_at h rfl rfl w
theorem run_byte_at {S : List UInt8} {i : Nat} (h : i < S.length) {v : Int} (hv : v = (i : Int)) (w : World) :
    (Instr.index 9 (.string (bs S)) (.int .i64 v)).run Tryd.prog w = .ok (.int .u8 (S[i].toNat : Int)) w := by
  subst hv; exact run_byte h w

theorem text_nil : (bs []).toList.isEmpty = true := by rw [bs_toList]; rfl
theorem text_cons (c : UInt8) (r : List UInt8) : (bs (c :: r)).toList.isEmpty = false := by rw [bs_toList]; rfl
end Go.Proofs.YtkfhkfagmokjpaaDoor

namespace Go.Proofs.YtkfhkfagmokjpaaDoor
open Go.RowKit

theorem wpList_app_row {P : Program} {w0 : World} {ops : Array Oper} {rest : List Oper} {o : Oper} {a : Act} {Q : Exit → Act → World → Prop} (hgd : o.guard = none) (s x : Operand) {T : TypeId}
    (ho : o.op = .call { callee := .builtin .append, args := #[s, x], argTypes := #[T, T] })
    {E : TypeId} {size bytes : Nat} (hE : EI P T E size bytes) {base n : Nat} {v : Value} {xs : List Value} (hs : a.eval s = v) (hown : w0.ownsRow base E size v n xs)
    {ad : Addr} {k c : Nat} (news : List Value) (hx : a.eval x = .slice (some ad) k c) (hl : news.length = k * size) (hc : ∀ j u, news[j]? = some u → w0.cell? (ad.add j) = some u) (h1 : ∀ u ∈ news, u.oneCell' = true)
    (h63 : n + k ≤ 1000000000000) (hbytes : bytes ≤ 100) (hbase : base ≤ w0.heap.size)
    (h : ∀ v' w', w'.ownsRow base E size v' (n + k) (xs ++ news) → Hid (w0.grownBy w' v.ownBlock) → Below base w0 w' → Hid (At w0.heap.size v v') → wpList P ops Q rest (a.put o.dst v') w') :
    wpList P ops Q (o :: rest) a w0 := by
  obtain ⟨i, z, hi, hz, hs1, hs2, hs3⟩ := hE.info
  refine wpList_append_own_at _ hgd s x T ho base E i z size bytes hE.ht hi hz hs1 hs2 hs3 hE.pos v n xs hs hown ad k c news hx hl hc h1
    (by unfold maxLen; omega) (by have := Nat.mul_le_mul h63 hbytes; omega) hbase ?_
  intro v' w' hw hgr _ hat
  refine h v' w' hw hgr (below_grown (Below.refl _ _) hown (Below.refl _ _) hgr hbase) ?_
  intro q hq
  rcases hat with e | e
  · rw [e] at hq; exact .inl hq
  · rw [e] at hq; simp at hq; exact .inr (by omega)
end Go.Proofs.YtkfhkfagmokjpaaDoor

namespace Go.Proofs.YtkfhkfagmokjpaaDoor
open Go.RowKit

/-- make of as many elements as there is room for -/
theorem run_mk {P : Program} {T E : TypeId} {size bytes : Nat} (hE : EI P T E size bytes) {z : Value} (hz : (P.info? E).map (fun i => i.zero) = some (some z)) (n : Nat) (hn : n ≤ 1000000000) (hb : bytes ≤ 1000) (w : World) :
    (Instr.makeSlice T (.int .i64 (n : Int)) (.int .i64 (n : Int))).run P w = .ok (.slice (some ⟨w.heap.size, 0, none⟩) n n) (w.alloc (.cells (madeCells z.cells (n * size)) E)) := by
  obtain ⟨i, z', hi, hz', hs1, hs2, hs3⟩ := hE.info
  have hzz : i.zero = some z := by rw [hi] at hz; simpa using hz
  have hm : bytes * n ≤ 1000 * 1000000000 := Nat.mul_le_mul hb hn
  have hm' : (i.bytes : Int) * (n : Int) ≤ 281474976710656 := by
    rw [hs2, ← Int.natCast_mul]; omega
  have := run_make (P := P) w T E i z hE.ht hi hzz .i64 .i64 (n : Int) (n : Int) (by omega) (Int.le_refl _) hm' (by omega)
  rw [Int.toNat_natCast, hs1] at this
  exact this
/-- what it owns -/
theorem own_mk (w : World) (B size n : Nat) (E : TypeId) (z : Array Value) (hB : B ≤ w.heap.size) (hn : n ≤ 1000000000) : (w.alloc (.cells (madeCells z (n * size)) E)).ownsRow B E size (.slice (some ⟨w.heap.size, 0, none⟩) n n) n (madeCells z (n * size)).toList :=
  World.ownsRow_lit w _ n hB (by unfold maxLen; omega) (size_madeCells _ _)
end Go.Proofs.YtkfhkfagmokjpaaDoor

namespace Go.Proofs.YtkfhkfagmokjpaaDoor
open Go.RowKit

theorem max_cast (m n : Nat) : Value.int .i64 (if m < n then (n : Int) else (m : Int)) = .int .i64 ((max m n : Nat) : Int) := by
  congr 1; split <;> omega

theorem runs_end2 {c : UInt8} {l : List UInt8} {a k : Nat} (h : Hid (k + Fn.run c (l.drop (a + k)) = Fn.run c (l.drop a))) (h0 : Fn.run c (l.drop (a + k)) = 0) : k = Fn.run c (l.drop a) := by
  have := h.out; omega

end Go.Proofs.YtkfhkfagmokjpaaDoor

namespace Go.Proofs.YtkfhkfagmokjpaaDoor
open Go.RowKit

/-- how many stand from a place on, wherever it is -/
def runV (c : UInt8) (l : List UInt8) (at_ : Int) : Nat := if at_ < 0 then 0 else Fn.run c (l.drop at_.toNat)
theorem runV_at (c : UInt8) (l : List UInt8) (k : Nat) : runV c l (k : Int) = Fn.run c (l.drop k) := by unfold runV; rw [if_neg (by omega)]; rfl

/-- a text from a place to another, the places in the walk's own form -/
theorem run_mid_at {S : List UInt8} {i j : Nat} {v u : Int} (h : i ≤ j) (hj : j ≤ S.length) (hv : v = (i : Int)) (hu : u = (j : Int)) (w : World) :
    (Instr.slice 9 (.string (bs S)) (some (.int .i64 v)) (some (.int .i64 u)) none).run Tryd.prog w = .ok (.string (bs (mid S i j))) w := by
  subst hv hu; exact run_mid h hj w

/-- what Span answers -/
def spanV : Option (List UInt8 × Nat) → Value
  | none => .tuple #[.string ⟨#[]⟩, .int .i64 0, .bool false]
  | some (t, e) => .tuple #[.string (bs t), .int .i64 (e : Int), .bool true]
theorem opens_no {l : List UInt8} {at_ : Int} (h : at_ < 0 ∨ (l.length : Int) ≤ at_ ∨ (∃ h : at_.toNat < l.length, l[at_.toNat] ≠ 96) ∨ (0 < at_ ∧ ∃ h : at_.toNat - 1 < l.length, l[at_.toNat - 1] = 96)) : Cd.opens l at_ = false := by
  unfold Cd.opens
  refine decide_eq_false ?_
  rintro ⟨h1, h2, h3, h4⟩
  rcases h with h | h | ⟨hl, h⟩ | ⟨h0, hl, h⟩
  · omega
  · omega
  · exact h (by simpa [List.getD, List.getElem?_eq_getElem hl] using h3)
  · rcases h4 with h4 | h4
    · omega
    · exact h4 (by simpa [List.getD, List.getElem?_eq_getElem hl] using h)
theorem opens_yes {l : List UInt8} {k : Nat} (h : k < l.length) (h1 : l[k] = 96) (h2 : k = 0 ∨ ∃ h : k - 1 < l.length, l[k - 1] ≠ 96) : Cd.opens l (k : Int) = true := by
  unfold Cd.opens
  refine decide_eq_true ⟨by omega, h, by simpa [List.getD, List.getElem?_eq_getElem h] using h1, ?_⟩
  rcases h2 with h2 | ⟨hl, h2⟩
  · exact .inl h2
  · exact .inr (by simpa [List.getD, List.getElem?_eq_getElem hl] using h2)

end Go.Proofs.YtkfhkfagmokjpaaDoor

namespace Go.Proofs.YtkfhkfagmokjpaaDoor.Lf
open Go.Proofs.YtkfhkfagmokjpaaDoor.Cl (isGap strip)
open Go.Proofs.YtkfhkfagmokjpaaDoor.Fn (cl rs run trim back emp)

/-- the end, or a blank or tab -/
def stop : List UInt8 → Bool
  | [] => true
  | b :: _ => isGap b
/-- without the signs at the end -/
def unhash : List UInt8 → List UInt8
  | [] => []
  | b :: r => if unhash r = [] ∧ b = 35 then [] else b :: unhash r
theorem unhash_snoc_sign (l : List UInt8) : unhash (l ++ [35]) = unhash l := by
  induction l with
  | nil => rfl
  | cons b r ih => rw [List.cons_append, unhash, unhash, ih]
theorem unhash_snoc_word (l : List UInt8) {x : UInt8} (h : x ≠ 35) : unhash (l ++ [x]) = l ++ [x] := by
  induction l with
  | nil => simp [unhash, h]
  | cons b r ih => rw [List.cons_append, unhash, ih, if_neg (by simp)]
theorem unhash_len (l : List UInt8) : (unhash l).length ≤ l.length := by
  induction l with
  | nil => simp [unhash]
  | cons b r ih => simp only [unhash]; split <;> simp only [List.length_cons, List.length_nil] <;> omega
theorem unhash_take (l : List UInt8) : l.take (unhash l).length = unhash l := by
  induction l with
  | nil => rfl
  | cons b r ih =>
    rw [unhash]
    split
    · rfl
    · rw [List.length_cons, List.take_succ_cons, ih]
/-- nothing is left, or a blank or tab stands last -/
def closed (u : List UInt8) : Bool := match u.getLast? with
  | none => true
  | some b => isGap b
/-- a heading's text, out of what is behind its signs -/
def title (t : List UInt8) : List UInt8 := if closed (unhash t) = true then back (unhash t) else t
/-- level, text -/
def heading (l : List UInt8) : Option (Nat × List UInt8) :=
  if cl l ≤ 3 ∧ 1 ≤ run 35 (rs l) ∧ run 35 (rs l) ≤ 6 ∧ stop ((rs l).drop (run 35 (rs l))) = true then some (run 35 (rs l), title (trim ((rs l).drop (run 35 (rs l))))) else none
/-- a sign of breaks -/
def ruler (c : UInt8) : Bool := c == 42 || c == 45 || c == 95
/-- the sign, or a blank or tab -/
def along (c b : UInt8) : Bool := b == c || isGap b
def brk (l : List UInt8) : Bool := match rs l with
  | [] => false
  | c :: r => decide (cl l ≤ 3) && ruler c && (c :: r).all (along c) && decide (3 ≤ (c :: r).count c)
theorem brk_nil {l : List UInt8} (h : rs l = []) : brk l = false := by unfold brk; rw [h]
theorem brk_far {l : List UInt8} (h : ¬ cl l ≤ 3) : brk l = false := by unfold brk; split <;> simp [h]
theorem brk_cons {l r : List UInt8} {c : UInt8} (h : rs l = c :: r) (h3 : cl l ≤ 3) : brk l = (ruler c && (c :: r).all (along c) && decide (3 ≤ (c :: r).count c)) := by
  unfold brk; rw [h]; simp [h3]
/-- what is behind the sign -/
def quote (l : List UInt8) : Option (List UInt8) := match rs l with
  | [] => none
  | c :: r => if cl l ≤ 3 ∧ c = 62 then some (strip 1 r) else none
/-- a sign of items -/
def bullet (c : UInt8) : Bool := c == 42 || c == 45 || c == 43
/-- how many columns of blanks belong to the sign -/
def inner (n : Nat) : Nat := if 4 < n then 1 else n
/-- the sign, how far in, what is behind -/
def item (l : List UInt8) : Option (UInt8 × Nat × List UInt8) := match rs l with
  | [] => none
  | c :: r =>
    if cl l ≤ 3 ∧ bullet c = true ∧ brk l = false ∧ stop r = true then
      if emp r = true then some (c, cl l + 2, []) else some (c, cl l + 1 + inner (cl r), strip (inner (cl r)) r)
    else none

theorem title_len (t : List UInt8) : (title t).length ≤ t.length := by
  unfold title
  split
  · have := Fn.back_len (unhash t)
    have := unhash_len t
    omega
  · exact Nat.le_refl _
end Go.Proofs.YtkfhkfagmokjpaaDoor.Lf

namespace Go.Proofs.YtkfhkfagmokjpaaDoor.Bk
open Go.Proofs.YtkfhkfagmokjpaaDoor.Cl (strip)
open Go.Proofs.YtkfhkfagmokjpaaDoor.Fn (cl rs emp trim)

/-- a node: kinds are 0 the document, 1 a quote, 2 a list, 3 an item, 4 a paragraph, 5 a heading, 6 a break, 7 a fence -/
structure Nd where
  par : Option Nat
  kind : Nat
  level : Nat
  text : List UInt8
  info : List UInt8
  line : Nat
  sign : UInt8
/-- an open container: a quote has no column -/
structure Box where
  n : Nat
  col : Option Nat
structure Pl where
  line : Nat
  op : Fn.Op
  first : Nat
  last : Nat
  closed : Bool
structure St where
  ns : List Nd
  opn : List Box
  para : Option Nat
  fence : Option Nat
  f : Fn.Op
  line : Nat
  places : List Pl

/-- the numbers of a node's own nodes, counted from o -/
def kidsFrom (i : Nat) : List Nd → Nat → List Nat
  | [], _ => []
  | x :: r, o => if x.par = some i then o :: kidsFrom i r (o + 1) else kidsFrom i r (o + 1)
def kids (ns : List Nd) (i : Nat) : List Nat := kidsFrom i ns 0
theorem kidsFrom_append (i : Nat) (a b : List Nd) (o : Nat) : kidsFrom i (a ++ b) o = kidsFrom i a o ++ kidsFrom i b (o + a.length) := by
  induction a generalizing o with
  | nil => simp [kidsFrom]
  | cons x r ih =>
    simp only [List.cons_append, kidsFrom, ih, List.length_cons]
    split <;> simp [Nat.add_assoc, Nat.add_comm 1]
theorem kids_snoc (ns : List Nd) (x : Nd) (i : Nat) : kids (ns ++ [x]) i = kids ns i ++ if x.par = some i then [ns.length] else [] := by
  unfold kids
  rw [kidsFrom_append]
  simp only [kidsFrom, Nat.zero_add]
theorem kidsFrom_lt (i : Nat) (ns : List Nd) (o : Nat) : ∀ k ∈ kidsFrom i ns o, o ≤ k ∧ k < o + ns.length := by
  induction ns generalizing o with
  | nil => simp [kidsFrom]
  | cons x r ih =>
    intro k hk
    simp only [kidsFrom] at hk
    split at hk
    · rcases List.mem_cons.1 hk with rfl | hk
      · simp
      · have := ih _ k hk; simp only [List.length_cons]; omega
    · have := ih _ k hk; simp only [List.length_cons]; omega
theorem kids_lt {i : Nat} {ns : List Nd} {k : Nat} (hk : k ∈ kids ns i) : k < ns.length := by
  have := (kidsFrom_lt i ns 0 k hk).2; omega
theorem kidsFrom_len (i : Nat) (ns : List Nd) (o : Nat) : (kidsFrom i ns o).length ≤ ns.length := by
  induction ns generalizing o with
  | nil => simp [kidsFrom]
  | cons x r ih =>
    simp only [kidsFrom]
    have := ih (o + 1)
    split <;> simp only [List.length_cons] <;> omega
theorem kids_len (ns : List Nd) (i : Nat) : (kids ns i).length ≤ ns.length := kidsFrom_len i ns 0
/-- no node is behind them all -/
def rooted (ns : List Nd) : Prop := ∀ x ∈ ns, ∀ i, x.par = some i → i < ns.length
theorem kidsFrom_none {i : Nat} {ns : List Nd} (h : ∀ x ∈ ns, x.par ≠ some i) (o : Nat) : kidsFrom i ns o = [] := by
  induction ns generalizing o with
  | nil => rfl
  | cons x r ih => rw [kidsFrom, if_neg (h x List.mem_cons_self)]; exact ih (fun y hy => h y (List.mem_cons_of_mem _ hy)) _
theorem kids_none {ns : List Nd} (h : rooted ns) {i : Nat} (hi : ns.length ≤ i) : kids ns i = [] :=
  kidsFrom_none (fun x hx he => by have := h x hx i he; omega) 0
/-- a node's parent is ahead of it -/
def ordered (ns : List Nd) : Prop := ∀ (j : Nat) (x : Nd) (p : Nat), ns[j]? = some x → x.par = some p → p < j
theorem rooted_of {ns : List Nd} (h : ordered ns) : rooted ns := fun x hx i hi => by
  obtain ⟨j, hj⟩ := List.mem_iff_getElem?.1 hx
  have := h j x i hj hi
  have := (List.getElem?_eq_some_iff.1 hj).1
  omega
/-- a node's text is another one: whose node it is stays -/
def setText (ns : List Nd) (i : Nat) (t : List UInt8) : List Nd := ns.modify i fun x => { x with text := t }
theorem kidsFrom_text (k : Nat) (ns : List Nd) (i : Nat) (t : List UInt8) (o : Nat) : kidsFrom k (setText ns i t) o = kidsFrom k ns o := by
  induction ns generalizing i o with
  | nil => cases i <;> simp [setText, kidsFrom]
  | cons x r ih =>
    cases i with
    | zero => simp [setText, kidsFrom]
    | succ i =>
      have := ih i (o + 1)
      unfold setText at this ⊢
      simp only [List.modify_succ_cons, kidsFrom, this]
theorem kids_text (ns : List Nd) (i : Nat) (t : List UInt8) (k : Nat) : kids (setText ns i t) k = kids ns k := kidsFrom_text k ns i t 0
theorem kidsFrom_congr (k : Nat) {a b : List Nd} (h : a.map (·.par) = b.map (·.par)) (o : Nat) : kidsFrom k a o = kidsFrom k b o := by
  induction a generalizing b o with
  | nil =>
    cases b with
    | nil => rfl
    | cons _ _ => simp at h
  | cons x r ih =>
    cases b with
    | nil => simp at h
    | cons y s =>
      simp only [List.map_cons, List.cons.injEq] at h
      simp only [kidsFrom, h.1, ih h.2]
theorem kids_congr {a b : List Nd} (h : a.map (·.par) = b.map (·.par)) (k : Nat) : kids a k = kids b k := kidsFrom_congr k h 0
theorem setText_len (ns : List Nd) (i : Nat) (t : List UInt8) : (setText ns i t).length = ns.length := by simp [setText]

/-- the innermost open container's number -/
def last (st : St) : Nat := match st.opn.getLast? with
  | none => 0
  | some b => b.n
/-- all but the first k containers are closed, and what is open in them -/
def shut (k : Nat) (st : St) : St := { st with opn := st.opn.take k, para := none, fence := none }
/-- one node more, in the innermost open container -/
def add (kind level : Nat) (text info : List UInt8) (sign : UInt8) (st : St) : St := { st with ns := st.ns ++ [⟨some (last st), kind, level, text, info, st.line, sign⟩] }
/-- does a node's last own node hold items of the sign -/
def listOf (ns : List Nd) (i : Nat) (c : UInt8) : Option Nat := match (kids ns i).getLast? with
  | none => none
  | some k => match ns[k]? with
    | none => none
    | some x => if x.kind = 2 ∧ x.sign = c then some k else none
/-- an item, of its list -/
def item (c : UInt8) (n : Nat) (st : St) : St :=
  match listOf st.ns (last st) c with
  | some l => { st with ns := st.ns ++ [⟨some l, 3, 0, [], [], st.line, 0⟩], opn := st.opn ++ [⟨st.ns.length, some n⟩] }
  | none => { st with ns := st.ns ++ [⟨some (last st), 2, 0, [], [], st.line, c⟩, ⟨some st.ns.length, 3, 0, [], [], st.line, 0⟩], opn := st.opn ++ [⟨st.ns.length + 1, some n⟩] }
/-- the list that an item belongs to, made where there is none -/
def listed (c : UInt8) (st : St) : St × Nat := match listOf st.ns (last st) c with
  | some l => (st, l)
  | none => ({ st with ns := st.ns ++ [⟨some (last st), 2, 0, [], [], st.line, c⟩] }, st.ns.length)
def opened (b : Box) (st : St) : St := { st with opn := st.opn ++ [b] }
def put (x : Nd) (st : St) : St := { st with ns := st.ns ++ [x] }
theorem item_eq (c : UInt8) (n : Nat) (st : St) : item c n st = opened ⟨(listed c st).1.ns.length, some n⟩ (put ⟨some (listed c st).2, 3, 0, [], [], (listed c st).1.line, 0⟩ (listed c st).1) := by
  unfold item listed
  split <;> simp [opened, put]
def quote (st : St) : St := { st with ns := st.ns ++ [⟨some (last st), 1, 0, [], [], st.line, 0⟩], opn := st.opn ++ [⟨st.ns.length, none⟩] }
def push (o : Option (UInt8 × Nat)) (st : St) : St := match o with
  | none => quote st
  | some (c, n) => item c n st
/-- how many containers take a line, and what is left of it -/
def take : List Box → List UInt8 → Nat × List UInt8
  | [], s => (0, s)
  | b :: r, s => match b.col with
    | none => match Lf.quote s with
      | none => (0, s)
      | some q => ((take r q).1 + 1, (take r q).2)
    | some n => if emp s = true then ((take r s).1 + 1, (take r s).2) else if cl s < n then (0, s) else ((take r (strip n s)).1 + 1, (take r (strip n s)).2)
/-- what a line begins: a quote, or an item of a sign and a column; and what is left of it -/
def opener (s : List UInt8) : Option (Option (UInt8 × Nat) × List UInt8) := match Lf.quote s with
  | some q => some (none, q)
  | none => match Lf.item s with
    | some (c, n, r) => some (some (c, n), r)
    | none => none
def grow : Nat → St → List UInt8 → St × List UInt8
  | 0, st, s => (st, s)
  | m + 1, st, s => match opener s with
    | none => (st, s)
    | some (o, r) => grow m (push o st) r
/-- a line that is no line of an open fence, behind its containers -/
def leaf (s : List UInt8) (k : Nat) (began : Bool) (st : St) : St :=
  if emp s = true then shut k st
  else match Lf.heading s with
    | some (n, t) => add 5 n t [] 0 (shut k st)
    | none =>
      if Lf.brk s = true then add 6 0 [] [] 0 (shut k st)
      else match Fn.begins s with
        | some f =>
          { add 7 0 [] f.info 0 (shut k st) with fence := some st.ns.length, f := f, places := if (st.opn.take k).isEmpty = true then st.places ++ [⟨st.line, f, st.line + 1, 0, false⟩] else st.places }
        | none => match st.para, began with
          | some p, false => { st with ns := setText st.ns p (((st.ns[p]?.map (·.text)).getD []) ++ 10 :: trim s) }
          | _, _ => { add 4 0 (trim s) [] 0 (shut k st) with para := some st.ns.length }
/-- the last place ends here -/
def closeLast (n : Nat) (c : Bool) (ps : List Pl) : List Pl := match ps.getLast? with
  | none => ps
  | some p => ps.dropLast ++ [{ p with last := n, closed := c }]
def fenced (s : List UInt8) (i : Nat) (st : St) : St :=
  if Fn.ends st.f.c st.f.n s = true then { st with fence := none, places := if st.opn.isEmpty = true then closeLast st.line true st.places else st.places }
  else { st with ns := setText st.ns i (((st.ns[i]?.map (·.text)).getD []) ++ strip st.f.ind s ++ [10]) }
def below (s : List UInt8) (k : Nat) (st : St) : St :=
  if k < 40 then match opener s with
    | none => leaf s k false st
    | some (o, r) => leaf (grow (39 - k) (push o (shut k st)) r).2 (grow (39 - k) (push o (shut k st)) r).1.opn.length true (grow (39 - k) (push o (shut k st)) r).1
  else leaf s k false st
def text (s : List UInt8) (st : St) : St :=
  match st.fence with
  | some i => if (take st.opn s).1 = st.opn.length then fenced (take st.opn s).2 i st else below (take st.opn s).2 (take st.opn s).1 st
  | none => below (take st.opn s).2 (take st.opn s).1 st
def start : St := ⟨[⟨none, 0, 0, [], [], 0, 0⟩], [], none, none, ⟨0, 0, 0, []⟩, 0, []⟩
def lines : List (List UInt8) → Nat → St → St
  | [], _, st => st
  | s :: r, i, st => lines r (i + 1) (text s { st with line := i })
/-- of a document's lines -/
def run (ls : List (List UInt8)) : St := lines ls 0 start
def places (ls : List (List UInt8)) (n : Nat) : List Pl := match (run ls).places.getLast? with
  | none => (run ls).places
  | some p => if p.closed = true then (run ls).places else closeLast n false (run ls).places

/-- a tree -/
inductive Tree where
  | mk (kind level : Nat) (text info : List UInt8) (line : Nat) (kids : List Tree)
/-- the trees of those of the nodes, counted from o, that are i's own -/
def treesOf : List Nd → Nat → Nat → List Tree
  | [], _, _ => []
  | x :: r, o, i => if x.par = some i then .mk x.kind x.level x.text x.info x.line (treesOf r (o + 1) o) :: treesOf r (o + 1) i else treesOf r (o + 1) i
def treeAt (ns : List Nd) (i : Nat) : Option Tree := match ns[i]? with
  | none => none
  | some x => some (.mk x.kind x.level x.text x.info x.line (treesOf (ns.drop (i + 1)) (i + 1) i))
def tree (ls : List (List UInt8)) : Tree := match (run ls).ns with
  | [] => .mk 0 0 [] [] 0 []
  | x :: r => .mk x.kind x.level x.text x.info x.line (treesOf r 1 0)
end Go.Proofs.YtkfhkfagmokjpaaDoor.Bk
