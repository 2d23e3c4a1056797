/- The document's own answer of chapter 5: a pair. The document's own answer of chapter 5: all pairs of an info. What an info says, as a function; what a walk of the document's own Read wants to know. Plain mathematics of named pieces: documents, the pieces that stand in them, what is wrong first. No program is spoken of here. Named pieces, documents and faults, as they lie in memory. No function of the program is spoken of here. Plain mathematics of infos: all pairs of an info, from what is left of it, without places. No program is spoken of here. -/
import Derived.Test.YtmmgfoepfapnkaaGreatDoorQ14
import Derived.Test.YtmmgfoepfapnkaaGreatDoorQ03
import Derived.Test.YtmmgfoepfapnkaaGreatDoorQ12
import Derived.Test.YtmmgfoepfapnkaaGreatDoorQ02
namespace Go.Proofs.YtmmgfoepfapnkaaGreatDoor
open Go.RowKit
attribute [local go_sem] canOp readsAs readUpon

end Go.Proofs.YtmmgfoepfapnkaaGreatDoor

namespace Go.Proofs.YtmmgfoepfapnkaaGreatDoor
open Go.RowKit

end Go.Proofs.YtmmgfoepfapnkaaGreatDoor

namespace Go.Proofs.YtmmgfoepfapnkaaGreatDoor
open Go.RowKit

namespace At
def wName : List UInt8 := [110, 97, 109, 101]
def wFile : List UInt8 := [102, 105, 108, 101]
def wComment : List UInt8 := [99, 111, 109, 109, 101, 110, 116]
structure Attr where
  lang : List UInt8
  name : List UInt8
  file : List UInt8
  style : List UInt8
  append : Bool
  noline : Bool
/-- one pair more -/
def step (a : Attr) (p : Pr) : Option Attr :=
  if p.key = wName ∧ p.alone = false ∧ At.name p.text = true then some { a with name := p.text }
  else if p.key = wFile ∧ p.alone = false ∧ At.name p.text = true then some { a with file := p.text }
  else if p.key = wComment ∧ p.alone = false ∧ At.style p.text = true then some { a with style := p.text }
  else if p.key = wAppend ∧ p.alone = true then some { a with append := true }
  else if p.key = wNoline ∧ p.alone = true then some { a with noline := true }
  else none
def steps : List Pr → Attr → Option Attr
  | [], a => some a
  | p :: r, a => (step a p).bind (steps r)
def read (l : List UInt8) : Option Attr :=
  (steps (pairs l).2.1 ⟨(pairs l).1, [], [], [], false, false⟩).bind fun a => if (pairs l).2.2 = false ∨ (a.name ≠ [] ∧ a.file ≠ []) then none else some a
def zeroA : Attr := ⟨[], [], [], [], false, false⟩
end At
def acells (a : At.Attr) : Array Value := #[.string (bs a.lang), .string (bs a.name), .string (bs a.file), .string (bs a.style), .bool a.append, .bool a.noline]
def attrv : Option At.Attr → Value
  | none => .tuple #[.agg (acells At.zeroA), .bool false]
  | some a => .tuple #[.agg (acells a), .bool true]

theorem six {w1 : World} {g : Nat} {a b c d e f : Value} {t : TypeId} {fr : Nat × Nat} (h : w1.heap[g]? = some (.cells #[a, b, c, d, e, f] t fr)) :
    w1.cell? ⟨g, 0, none⟩ = some a ∧ w1.cell? ⟨g, 1, none⟩ = some b ∧ w1.cell? ⟨g, 2, none⟩ = some c ∧ w1.cell? ⟨g, 3, none⟩ = some d ∧ w1.cell? ⟨g, 4, none⟩ = some e ∧ w1.cell? ⟨g, 5, none⟩ = some f :=
  ⟨blk_cell h 0, blk_cell h 1, blk_cell h 2, blk_cell h 3, blk_cell h 4, blk_cell h 5⟩
theorem key_is {k w : List UInt8} (h : k = w) : ((bs k).toList == w) = true := by rw [bs_toList, h]; simp
theorem key_not {k w : List UInt8} (h : k ≠ w) : ((bs k).toList == w) = false := by rw [bs_toList]; exact beq_eq_false_iff_ne.2 h
theorem steps_at {out : List At.Pr} {k : Nat} {a : At.Attr} (hk : k < out.length) : At.steps (out.drop k) a = (At.step a out[k]).bind (At.steps (out.drop (k + 1))) := by
  rw [List.drop_eq_getElem_cons hk]; rfl

theorem At.pair_text {r : List UInt8} {a : Nat} : (At.pair r a).1.text.length ≤ r.length := by
  by_cases h0 : At.tw At.letter r = []
  · rw [At.pair_empty h0]; simp
  · have hd : (r.drop (At.tw At.letter r).length).length ≤ r.length := by rw [List.length_drop]; omega
    rcases hr : r.drop (At.tw At.letter r).length with _ | ⟨b, q⟩
    · rw [At.pair_end h0 hr]; simp
    · rw [hr, List.length_cons] at hd
      cases hb : Cl.isGap b with
      | true => rw [At.pair_gap h0 hr hb]; simp
      | false =>
        by_cases h61 : b = 61
        · subst h61
          by_cases hq : ∃ q', q = 34 :: q'
          · obtain ⟨q', rfl⟩ := hq
            rw [List.length_cons] at hd
            cases hQ : At.qd q' with
            | none => rw [At.pair_open h0 hr hQ]; simp
            | some x =>
              obtain ⟨t, n⟩ := x
              have := (At.qd_le q'.length q' (Nat.le_refl _) _ hQ).2
              rw [At.pair_quote h0 hr hQ]; simp only at this ⊢; omega
          · have := At.tw_len At.word q
            rw [At.pair_word h0 hr (fun x hx => hq ⟨x, hx⟩)]; simp only; omega
        · rw [At.pair_bad h0 hr hb h61]; simp
theorem At.prs_text {l : List UInt8} : ∀ (f : Nat) (first : Bool) (lang : List UInt8) (out : List At.Pr) (i : Nat), (∀ p ∈ out, p.text.length ≤ l.length) → ∀ p ∈ (At.prs l f first lang out i).2.1, p.text.length ≤ l.length := by
  intro f
  induction f with
  | zero => intro first lang out i _ p hp; cases hp
  | succ f ih =>
    intro first lang out i ho p hp
    rw [At.prs] at hp
    split at hp
    · exact ho p hp
    · split at hp
      · exact ih _ _ _ _ ho p hp
      · split at hp
        · cases hp
        · split at hp
          · cases hp
          · refine ih _ _ _ _ (fun x hx => ?_) p hp
            rcases List.mem_append.1 hx with hx | hx
            · exact ho x hx
            · simp at hx
              subst hx
              have := @At.pair_text (l.drop (i + Cl.gaps (l.drop i))) (i + Cl.gaps (l.drop i))
              rw [List.length_drop] at this; omega
end Go.Proofs.YtmmgfoepfapnkaaGreatDoor

namespace Go.Proofs.YtmmgfoepfapnkaaGreatDoor.Ck
open Go.Proofs.YtmmgfoepfapnkaaGreatDoor.Bk (Pl)

structure Src where
  path : List UInt8
  data : List UInt8
structure Def where
  doc : Nat
  line : Nat
  frm : Nat
  upto : Nat
  attr : At.Attr
  key : List UInt8
  lines : List (List UInt8)
structure Flt where
  code : Nat
  path : List UInt8
  line : Nat
  name : List UInt8
def noF : Flt := ⟨0, [], 0, []⟩

/-- a word that only pieces have -/
def pw (w : List UInt8) : Bool :=
  [110, 97, 109, 101, 61].isPrefixOf w || [102, 105, 108, 101, 61].isPrefixOf w || [99, 111, 109, 109, 101, 110, 116, 61].isPrefixOf w || decide (w = At.wAppend) || decide (w = At.wNoline)
/-- is one of the words such a one: cur is the word that has begun -/
def tell (cur : List UInt8) : List UInt8 → Bool
  | [] => pw cur
  | b :: r => if Cl.isGap b = true then pw cur || tell [] r else tell (cur ++ [b]) r
def piece (p : Pl) : Bool := p.closed && decide (p.op.ind = 0) && tell [] p.op.info
def path (s : List UInt8) : Bool := At.name s && decide ((58 : UInt8) ∉ s)

def tooLong (l : List Src) : Flt :=
  if 16 < l.length then ⟨3, [], 0, []⟩ else match l.find? fun s => decide (65536 < s.data.length) with
    | none => noF
    | some s => ⟨3, s.path, 0, []⟩
def badPath (seen : List (List UInt8)) : List Src → Flt
  | [] => noF
  | s :: r => if s.path ∈ seen ∨ path s.path = false then ⟨12, s.path, 0, []⟩ else badPath (seen ++ [s.path]) r

/-- the first Def of a key -/
def first (out : List Def) (k : List UInt8) : Option Def := out.find? fun d => decide (d.key = k)
def isF (a : At.Attr) : Bool := decide (a.file ≠ [])
/-- an info's refusal, or what it says -/
def judge (out : List Def) (info : List UInt8) : Nat × At.Attr := match At.read info with
  | none => (13, At.zeroA)
  | some a => if a.name ++ a.file = [] then (13, a) else match first out (a.name ++ a.file) with
    | none => if a.append = true then (14, a) else if 200 ≤ out.length then (3, a) else (0, a)
    | some f => if a.append = false ∨ isF f.attr ≠ isF a then (14, a) else if 200 ≤ out.length then (3, a) else (0, { a with style := f.attr.style, noline := f.attr.noline, lang := f.attr.lang })
def at_ (lns : List (Nat × Nat × Nat)) (k : Nat) : Nat := (lns[k]?.map (·.1)).getD 0
def mkDef (i : Nat) (s : Src) (p : Pl) (a : At.Attr) : Def :=
  ⟨i, p.line, at_ (Ln.lines s.data 0) p.first, at_ (Ln.lines s.data 0) p.last, a, a.name ++ a.file, mid (Ln.texts s.data 0) p.first p.last⟩
def fences (i : Nat) (s : Src) : List Pl → List Def → Flt × List Def
  | [], out => (noF, out)
  | p :: r, out => if piece p = false then fences i s r out else
    if (judge out p.op.info).1 = 0 then fences i s r (out ++ [mkDef i s p (judge out p.op.info).2])
    else (⟨(judge out p.op.info).1, s.path, p.line, if (judge out p.op.info).1 = 14 then (judge out p.op.info).2.name ++ (judge out p.op.info).2.file else []⟩, out)
def docs (F : List UInt8 → List Pl) : Nat → List Src → List Def → Flt × List Def
  | _, [], out => (noF, out)
  | i, s :: r, out => if (fences i s (F s.data) out).1.code = 0 then docs F (i + 1) r (fences i s (F s.data) out).2 else ((fences i s (F s.data) out).1, [])
def collect (F : List UInt8 → List Pl) (l : List Src) : Flt × List Def :=
  if (tooLong l).code ≠ 0 then (tooLong l, []) else if (badPath [] l).code ≠ 0 then (badPath [] l, []) else docs F 0 l []

def of (l : List Def) (k : List UInt8) : List Def := l.filter fun d => decide (d.key = k)
/-- of each key the first Def: of those whose key is not among those seen -/
def firsts (seen : List (List UInt8)) : List Def → List Def
  | [] => []
  | d :: r => if d.key ∈ seen then firsts seen r else d :: firsts (seen ++ [d.key]) r
def keys (l : List Def) : List (List UInt8) := (firsts [] l).map (·.key)
def files (l : List Def) : List (List UInt8) := ((firsts [] l).filter fun d => isF d.attr).map (·.key)
end Go.Proofs.YtmmgfoepfapnkaaGreatDoor.Ck

namespace Go.Proofs.YtmmgfoepfapnkaaGreatDoor
open Go.RowKit

abbrev darr (d : Ck.Def) (v : Value) : Array Value := #[.int .i64 (d.doc : Int), .int .i64 (d.line : Int), .int .i64 (d.frm : Int), .int .i64 (d.upto : Int), .string (bs d.attr.lang), .string (bs d.attr.name), .string (bs d.attr.file), .string (bs d.attr.style), .bool d.attr.append, .bool d.attr.noline, .string (bs d.key), v]
def dcells (d : Ck.Def) (v : Value) : List Value := (darr d v).toList
/-- a Def's cells, its lines in blocks that are allowed -/
def DC (w : World) (Q : Nat → Prop) (d : Ck.Def) (cs : List Value) : Prop := ∃ A c, cs = dcells d (.slice A d.lines.length c) ∧ d.lines.length ≤ c ∧ RowE w Q 1 A d.lines.length (scells d.lines)
theorem DC_len {w : World} {Q : Nat → Prop} : ∀ (d : Ck.Def) (cs : List Value), DC w Q d cs → cs.length = 12 := by
  rintro d cs ⟨A, c, rfl, _⟩; rfl
theorem DC.frame {w w' : World} {Q Q' : Nat → Prop} (hf : ∀ b, Q b → w'.heap[b]? = w.heap[b]?) (hq : ∀ b, Q b → Q' b) {d : Ck.Def} {cs : List Value} (h : DC w Q d cs) : DC w' Q' d cs := by
  obtain ⟨A, c, h1, h2, h3⟩ := h
  exact ⟨A, c, h1, h2, h3.frame hf hq⟩
/-- a row of Defs -/
def DRow (w : World) (B : Nat) (A : Option Addr) (n : Nat) (ds : List Ck.Def) (css : List (List Value)) : Prop := ds.length = n ∧ Row w B 12 A n css.flatten ∧ Els (DC w (fun b => b < B)) ds css
theorem DRow.keep {w w' : World} {B B' n : Nat} {A : Option Addr} {ds : List Ck.Def} {css : List (List Value)} (h : DRow w B A n ds css) (hb : Below B w w') (hB : B ≤ B') : DRow w' B' A n ds css :=
  ⟨h.1, (h.2.1.below hb).more hB, h.2.2.mono fun _ _ hd => hd.frame (fun b hq => hb.block b hq) (fun _ hq => Nat.lt_of_lt_of_le hq hB)⟩
theorem DRow.ext {w w' : World} {n : Nat} {A : Option Addr} {ds : List Ck.Def} {css : List (List Value)} (h : DRow w w.heap.size A n ds css) (hb : Below w.heap.size w w') : DRow w' w'.heap.size A n ds css := h.keep hb hb.size
/-- a Def of a row: its twelve cells, and its lines -/
theorem DRow.def_at {w : World} {B n : Nat} {A : Option Addr} {ds : List Ck.Def} {css : List (List Value)} (h : DRow w B A n ds css) (hn : 0 < n) :
    ∃ b o, A = some ⟨b, o, none⟩ ∧ b < B ∧ ∀ k (hk : k < ds.length), ∃ LA lc, ds[k].lines.length ≤ lc ∧ Row w B 1 LA ds[k].lines.length (scells ds[k].lines) ∧ ∀ j u, (dcells ds[k] (.slice LA ds[k].lines.length lc))[j]? = some u → w.cell? ⟨b, o + k * 12 + j, none⟩ = some u := by
  obtain ⟨b, o, e, hb, hc⟩ := h.2.1.els h.2.2 DC_len hn
  refine ⟨b, o, e, hb, fun k hk => ?_⟩
  obtain ⟨cs, ⟨LA, lc, e2, h2, h3⟩, h4⟩ := hc k hk
  subst e2
  exact ⟨LA, lc, h2, h3, h4⟩

def scell (s : Ck.Src) (v : Value) : List Value := [.string (bs s.path), v]
def SC (w : World) (B : Nat) (s : Ck.Src) (cs : List Value) : Prop := ∃ A c, cs = scell s (.slice A s.data.length c) ∧ s.data.length ≤ c ∧ Row w B 1 A s.data.length (bcells s.data)
theorem SC_len {w : World} {B : Nat} : ∀ (s : Ck.Src) (cs : List Value), SC w B s cs → cs.length = 2 := by
  rintro d cs ⟨A, c, rfl, _⟩; rfl
theorem SC.keep {w w' : World} {B B' : Nat} {s : Ck.Src} {cs : List Value} (h : SC w B s cs) (hb : Below B w w') (hB : B ≤ B') : SC w' B' s cs := by
  obtain ⟨A, c, h1, h2, h3⟩ := h
  exact ⟨A, c, h1, h2, (h3.below hb).more hB⟩
/-- a row of documents -/
def SRow (w : World) (B : Nat) (A : Option Addr) (n : Nat) (l : List Ck.Src) (css : List (List Value)) : Prop := l.length = n ∧ Row w B 2 A n css.flatten ∧ Els (SC w B) l css
theorem SRow.keep {w w' : World} {B B' n : Nat} {A : Option Addr} {l : List Ck.Src} {css : List (List Value)} (h : SRow w B A n l css) (hb : Below B w w') (hB : B ≤ B') : SRow w' B' A n l css :=
  ⟨h.1, (h.2.1.below hb).more hB, h.2.2.mono fun _ _ hd => hd.keep hb hB⟩
theorem SRow.ext {w w' : World} {n : Nat} {A : Option Addr} {l : List Ck.Src} {css : List (List Value)} (h : SRow w w.heap.size A n l css) (hb : Below w.heap.size w w') : SRow w' w'.heap.size A n l css := h.keep hb hb.size
/-- a document of a row: its two cells, and its bytes -/
theorem SRow.src_at {w : World} {B n : Nat} {A : Option Addr} {l : List Ck.Src} {css : List (List Value)} (h : SRow w B A n l css) (hn : 0 < n) :
    ∃ b o, A = some ⟨b, o, none⟩ ∧ b < B ∧ ∀ k (hk : k < l.length), ∃ LA lc, l[k].data.length ≤ lc ∧ Row w B 1 LA l[k].data.length (bcells l[k].data) ∧ w.cell? ⟨b, o + k * 2, none⟩ = some (.string (bs l[k].path)) ∧ w.cell? ⟨b, o + k * 2 + 1, none⟩ = some (.slice LA l[k].data.length lc) := by
  obtain ⟨b, o, e, hb, hc⟩ := h.2.1.els h.2.2 SC_len hn
  refine ⟨b, o, e, hb, fun k hk => ?_⟩
  obtain ⟨cs, ⟨LA, lc, e2, h2, h3⟩, h4⟩ := hc k hk
  subst e2
  exact ⟨LA, lc, h2, h3, h4 0 _ rfl, h4 1 _ rfl⟩
abbrev fcells (f : Ck.Flt) : Array Value := #[.int .i64 (f.code : Int), .string (bs f.path), .int .i64 (f.line : Int), .string (bs f.name)]
abbrev fltv (f : Ck.Flt) : Value := .agg (fcells f)
end Go.Proofs.YtmmgfoepfapnkaaGreatDoor

namespace Go.Proofs.YtmmgfoepfapnkaaGreatDoor.At
open Go.Proofs.YtmmgfoepfapnkaaGreatDoor.Cl (isGap gaps)

theorem pair_place (r : List UInt8) (a : Nat) : (pair r a).1 = (pair r 0).1 ∧ (pair r a).2.2 = (pair r 0).2.2 ∧ ((pair r a).2.2 = true → (pair r a).2.1 = a + (pair r 0).2.1) := by
  by_cases h0 : tw letter r = []
  · rw [pair_empty h0, pair_empty h0]; simp
  · rcases hr : r.drop (tw letter r).length with _ | ⟨b, q⟩
    · rw [pair_end h0 hr, pair_end h0 hr]; simp
    · cases hb : isGap b with
      | true => rw [pair_gap h0 hr hb, pair_gap h0 hr hb]; simp
      | false =>
        by_cases h61 : b = 61
        · subst h61
          by_cases hq : ∃ q', q = 34 :: q'
          · obtain ⟨q', rfl⟩ := hq
            cases hQ : qd q' with
            | none => rw [pair_open h0 hr hQ, pair_open h0 hr hQ]; simp
            | some x =>
              obtain ⟨t, n⟩ := x
              rw [pair_quote h0 hr hQ, pair_quote h0 hr hQ]
              refine ⟨rfl, rfl, fun _ => ?_⟩
              simp only; omega
          · rw [pair_word h0 hr (fun x hx => hq ⟨x, hx⟩), pair_word h0 hr (fun x hx => hq ⟨x, hx⟩)]
            refine ⟨rfl, rfl, fun _ => ?_⟩
            simp only; omega
        · rw [pair_bad h0 hr hb h61, pair_bad h0 hr hb h61]; simp

/-- from what is left on, by at most so many steps -/
def run : Nat → Bool → List UInt8 → List Pr → List UInt8 → List UInt8 × List Pr × Bool
  | 0, _, _, _, _ => ([], [], false)
  | f + 1, first, lang, out, r =>
    if r.drop (gaps r) = [] then (lang, out, true)
    else if isLang first (tw word (r.drop (gaps r))) = true then
      run f false (tw word (r.drop (gaps r))) out ((r.drop (gaps r)).drop (tw word (r.drop (gaps r))).length)
    else if (pair (r.drop (gaps r)) 0).2.2 = false then ([], [], false)
    else if twice out (pair (r.drop (gaps r)) 0).1.key = true then ([], [], false)
    else run f false lang (out ++ [(pair (r.drop (gaps r)) 0).1]) ((r.drop (gaps r)).drop (pair (r.drop (gaps r)) 0).2.1)

theorem prs_run (l : List UInt8) : ∀ (f : Nat) (first : Bool) (lang : List UInt8) (out : List Pr) (i : Nat), prs l f first lang out i = run f first lang out (l.drop i) := by
  intro f
  induction f with
  | zero => intro first lang out i; rfl
  | succ f ih =>
    intro first lang out i
    obtain ⟨j, hj⟩ : ∃ j, i + gaps (l.drop i) = j := ⟨_, rfl⟩
    have hd : (l.drop i).drop (gaps (l.drop i)) = l.drop j := by rw [List.drop_drop, hj]
    rw [run, hd]
    by_cases h1 : l.drop j = []
    · rw [prs_done hj h1, if_pos h1]
    · rw [if_neg h1]
      cases hL : isLang first (tw word (l.drop j)) with
      | true => rw [prs_lang hj h1 hL, if_pos rfl, ih, List.drop_drop]
      | false =>
        rw [if_neg (by simp)]
        obtain ⟨s1, s2, s3⟩ := pair_place (l.drop j) j
        cases hP : (pair (l.drop j) j).2.2 with
        | false => rw [prs_bad hj h1 hL hP, if_pos (s2.symm.trans hP)]
        | true =>
          rw [if_neg (by rw [← s2, hP]; simp)]
          cases hT : twice out (pair (l.drop j) j).1.key with
          | true => rw [prs_twice hj h1 hL hP hT, if_pos (by rw [← s1]; exact hT)]
          | false => rw [prs_more hj h1 hL hP hT, if_neg (by rw [← s1, hT]; simp), ih, s1, s3 hP, List.drop_drop]

theorem pairs_run (l : List UInt8) : pairs l = run (l.length + 1) true [] [] l := by
  unfold pairs; rw [prs_run]; simp
end Go.Proofs.YtmmgfoepfapnkaaGreatDoor.At
