/- Parts of a text, as they lie in memory; where a run is among them. The document's own inlines: what they say; whether two are alike; a run's signs. The document's own inlines: what parts settle to. Inlines, by no program: a pair's parts put into one; where its two runs are. Inlines, by no program: a text read step by step into parts and runs; what comes of them. Rows of parts, cut, put together, one of them set. No function of the program is spoken of here. The document's own inlines: one plain more among the parts. The document's own inlines: where a pair's runs are, in whatever order it is asked; one part and the rest put together. The document's own inlines: two runs have fewer signs left. Inlines, by no program: how many signs each run among the parts has left, pair by pair; what weighs what. The document's own inlines: what stands between a pair's runs is put into one, pair by pair. Inlines, by no program: what holds of what has been read, piece by piece. Inlines, by no program: what a text is parted into has not too many kids, and says not too much. Inlines, by no program: rows that are laid into one another run by run come to what the document says, pair by pair. Inlines, by no program: rows that grow, their plain end kept apart; what is read of a text as such rows. Memory of a call's own, part by part: structs' blocks, rows, a map, each in a block of its own; blocks that are no part are let alone. Rows of inlines that grow. No function of the program is spoken of here. utf8.AppendRune onto bytes of the call's own: what is written, and where it lies then. Package inline's rows: last, sayRune, say. Stores as makers of a tree. Package inline's rows: all. -/
import Derived.Test.YtkfhkfagmokjpaaDoorMn10
import Derived.Deep.DeepCutAuto
import Derived.Test.YtkfhkfagmokjpaaDoorMn09
import Derived.Test.YtkfhkfagmokjpaaDoorMn05
import Derived.Test.YtkfhkfagmokjpaaDoorMn02
import Derived.Test.YtkfhkfagmokjpaaDoorMn04
import Derived.Maps.OwnSet
import Derived.Maps.OwnOps
import Derived.Lib.RuneBytes
namespace Go.Proofs.YtkfhkfagmokjpaaDoor
open Go.RowKit

def runI : Option Nat → Int
  | none => -1
  | some r => (r : Int)
/-- a part's cells -/
def PC (w : World) (Q : Nat → Prop) (p : Il.Pt) (cs : List Value) : Prop := ∃ ic, IC w Q p.inn ic ∧ cs = ic ++ [.int .i64 (runI p.run), .int .i64 (p.left : Int), .int .u8 (p.ch.toNat : Int)]
def PCs (w : World) (Q : Nat → Prop) : List Il.Pt → List (List Value) → Prop
  | [], css => css = []
  | p :: r, css => ∃ c0 cr, css = c0 :: cr ∧ PC w Q p c0 ∧ PCs w Q r cr
theorem PC_frame {w w' : World} {Q Q' : Nat → Prop} (hf : ∀ b, Q b → w'.heap[b]? = w.heap[b]?) (hq : ∀ b, Q b → Q' b) {p : Il.Pt} {cs : List Value} (h : PC w Q p cs) : PC w' Q' p cs := by
  obtain ⟨ic, h1, h2⟩ := h; exact ⟨ic, IC_frame hf hq h1, h2⟩
theorem PCs_frame {w w' : World} {Q Q' : Nat → Prop} (hf : ∀ b, Q b → w'.heap[b]? = w.heap[b]?) (hq : ∀ b, Q b → Q' b) : ∀ {l : List Il.Pt} {css : List (List Value)}, PCs w Q l css → PCs w' Q' l css
  | [], _, h => h
  | _ :: _, _, ⟨c0, cr, h1, h2, h3⟩ => ⟨c0, cr, h1, PC_frame hf hq h2, PCs_frame hf hq h3⟩
theorem PC_length {w : World} {Q : Nat → Prop} {p : Il.Pt} {cs : List Value} (h : PC w Q p cs) : cs.length = 7 := by
  obtain ⟨ic, h1, rfl⟩ := h; rw [List.length_append, IC_length h1]; rfl
theorem PCs_length {w : World} {Q : Nat → Prop} : ∀ {l : List Il.Pt} {css : List (List Value)}, PCs w Q l css → css.flatten.length = l.length * 7 ∧ css.length = l.length
  | [], css, h => by subst h; exact ⟨rfl, rfl⟩
  | p :: r, css, ⟨c0, cr, h1, h2, h3⟩ => by
    subst h1
    have := PCs_length h3
    rw [List.flatten_cons, List.length_append, PC_length h2, this.1, List.length_cons, List.length_cons, this.2]
    exact ⟨by omega, rfl⟩
theorem PCs_snoc {w : World} {Q : Nat → Prop} : ∀ {l : List Il.Pt} {css : List (List Value)} {p : Il.Pt} {cs : List Value}, PCs w Q l css → PC w Q p cs → PCs w Q (l ++ [p]) (css ++ [cs])
  | [], _, _, cs, h, hp => by cases h; exact ⟨cs, [], rfl, hp, rfl⟩
  | _ :: _, _, _, cs, ⟨c0, cr, h1, h2, h3⟩, hp => by subst h1; exact ⟨c0, cr ++ [cs], rfl, h2, PCs_snoc h3 hp⟩
theorem PCs_last {w : World} {Q : Nat → Prop} : ∀ {l : List Il.Pt} {css : List (List Value)} {p : Il.Pt}, PCs w Q (l ++ [p]) css → ∃ cr c, css = cr ++ [c] ∧ PCs w Q l cr ∧ PC w Q p c
  | [], _, _, ⟨c0, cr, h1, h2, h3⟩ => by cases h3; exact ⟨[], c0, by rw [h1]; rfl, rfl, h2⟩
  | _ :: _, _, _, ⟨c0, cr, h1, h2, h3⟩ => by
    obtain ⟨cr', c, e, k1, k2⟩ := PCs_last h3
    exact ⟨c0 :: cr', c, by rw [h1, e]; rfl, ⟨c0, cr', rfl, h2, k1⟩, k2⟩
theorem ICs_last {w : World} {Q : Nat → Prop} : ∀ {l : List Il.In} {css : List (List Value)} {p : Il.In}, ICs w Q (l ++ [p]) css → ∃ cr c, css = cr ++ [c] ∧ ICs w Q l cr ∧ IC w Q p c
  | [], css, p, h => by
    rw [List.nil_append] at h
    unfold ICs at h
    obtain ⟨c0, cr, h1, h2, h3⟩ := h
    unfold ICs at h3
    subst h3
    exact ⟨[], c0, by rw [h1]; rfl, ICs_nil, h2⟩
  | x :: r, css, p, h => by
    rw [List.cons_append] at h
    unfold ICs at h
    obtain ⟨c0, cr, h1, h2, h3⟩ := h
    obtain ⟨cr', c, e, k1, k2⟩ := ICs_last h3
    refine ⟨c0 :: cr', c, by rw [h1, e]; rfl, ?_, k2⟩
    unfold ICs
    exact ⟨c0, cr', rfl, h2, k1⟩
theorem PCs_at {w : World} {Q : Nat → Prop} : ∀ {l : List Il.Pt} {css : List (List Value)}, PCs w Q l css → ∀ {k : Nat} (hk : k < l.length), ∃ cs, PC w Q l[k] cs ∧ ∀ j, j < 7 → css.flatten[k * 7 + j]? = cs[j]?
  | [], _, _, _, hk => by simp at hk
  | p :: r, css, ⟨c0, cr, h1, h2, h3⟩, k, hk => by
    subst h1
    have hl := PC_length h2
    rcases k with _ | k
    · exact ⟨c0, h2, fun j hj => by rw [List.flatten_cons, List.getElem?_append_left (by omega)]; congr 1; omega⟩
    · obtain ⟨cs, h3, h4⟩ := PCs_at h3 (k := k) (by simpa using hk)
      refine ⟨cs, h3, fun j hj => ?_⟩
      rw [List.flatten_cons, List.getElem?_append_right (by omega), hl, show (k + 1) * 7 + j - 7 = k * 7 + j from by omega]
      exact h4 j hj
/-- a part's seven cells -/
theorem PC_form {w : World} {Q : Nat → Prop} {kd : Nat} {t d : List UInt8} {ks : List Il.In} {r : Option Nat} {n : Nat} {ch : UInt8} {cs : List Value} (h : PC w Q ⟨.mk kd t d ks, r, n, ch⟩ cs) :
    ∃ (A : Option Addr) (c : Nat) (css : List (List Value)), cs = [.int .i64 (kd : Int), .string (bs t), .string (bs d), .slice A ks.length c, .int .i64 (runI r), .int .i64 (n : Int), .int .u8 (ch.toNat : Int)] ∧ ks.length ≤ c ∧ RowI w Q 4 A ks.length css.flatten ∧ ICs w Q ks css := by
  obtain ⟨ic, h1, rfl⟩ := h
  obtain ⟨A, c, css, rfl, h2⟩ := IC_form h1
  exact ⟨A, c, css, rfl, h2⟩

/-- where a run is among the parts -/
def Il.place (l : List Il.Pt) (r : Nat) : Nat := (l.findIdx? fun p => p.run == some r).getD 0
theorem il_place_yes {l : List Il.Pt} {r k : Nat} (hk : k < l.length) (h : l[k].run = some r) (hno : ∀ p ∈ l.take k, p.run ≠ some r) : Il.place l r = k := by
  unfold Il.place
  have : l.findIdx? (fun p => p.run == some r) = some k := by
    rw [List.findIdx?_eq_some_iff_getElem]
    refine ⟨hk, by simpa using h, fun j hj => ?_⟩
    have hm : l[j]'(by omega) ∈ l.take k := by
      have : (l.take k)[j]'(by rw [List.length_take]; omega) = l[j]'(by omega) := List.getElem_take
      rw [← this]; exact List.getElem_mem _
    simpa using hno _ hm
  rw [this]; rfl
theorem il_place_no {l : List Il.Pt} {r : Nat} (hno : ∀ p ∈ l, p.run ≠ some r) : Il.place l r = 0 := by
  unfold Il.place
  have : l.findIdx? (fun p => p.run == some r) = none := by
    rw [List.findIdx?_eq_none_iff]
    intro p hp
    simpa using hno p hp
  rw [this]; rfl

end Go.Proofs.YtkfhkfagmokjpaaDoor

namespace Go.Proofs.YtkfhkfagmokjpaaDoor
open Go.RowKit
attribute [local go_sem] canOp readsAs readUpon

/-- a byte in a new block, as a text -/
theorem il_onetext {c : UInt8} {v : Int} (hv : v = (c.toNat : Int)) (w : World) :
    (convert 22 9 (.slice (some ⟨w.heap.size, 0, none⟩) 1 1)).run Tryd.prog (w.alloc (.cells #[.int .u8 v] 5)) = .ok (.string (bs [c])) (w.alloc (.cells #[.int .u8 v] 5)) := by
  subst hv
  refine run_text (c := 1) (l := [c]) (B := w.heap.size + 1) ⟨rfl, fun _ => ⟨w.heap.size, 0, rfl, by omega, fun j u hu => ?_⟩⟩ 22 5 9 Tryd.underlying22 Tryd.underlying5 Tryd.underlying9
  have := cells_new w #[.int .u8 (c.toNat : Int)] 5 rfl j u hu
  rwa [show (⟨w.heap.size, 0, none⟩ : Addr).add j = ⟨w.heap.size, 0 + j, none⟩ from by unfold Addr.add; split <;> simp_all] at this
end Go.Proofs.YtkfhkfagmokjpaaDoor

namespace Go.Proofs.YtkfhkfagmokjpaaDoor
open Go.RowKit
attribute [local go_sem] canOp readsAs readUpon

theorem inlEI : EI Tryd.prog 25 30 4 64 := EI.mk' (z := .agg #[.int .i64 0, .string ⟨#[]⟩, .string ⟨#[]⟩, .slice none 0 0]) Tryd.underlying25 (by kernel_rfl) rfl (by omega)

namespace Il
def tlen : In → Nat
  | .mk _ t _ _ => t.length
def otlen (o : List In) : Nat := (o.map tlen).sum
def heft (l : List Pt) : Nat := (l.map fun p => tlen (eff p)).sum
theorem otlen_snoc (o : List In) (x : In) : otlen (o ++ [x]) = otlen o + tlen x := by simp [otlen]
theorem heft_take {l : List Pt} {k : Nat} (h : k < l.length) : heft (l.take (k + 1)) = heft (l.take k) + tlen (eff l[k]) := by
  unfold heft; rw [List.take_succ_eq_append_getElem h, List.map_append, List.sum_append]; simp
theorem heft_part (l : List Pt) (k : Nat) : heft (l.take k) ≤ heft l := by
  unfold heft
  conv => rhs; rw [← List.take_append_drop k l, List.map_append, List.sum_append]
  omega
theorem settle_take {l : List Pt} {k : Nat} (h : k < l.length) : settle (l.take (k + 1)) = iput (settle (l.take k)) (eff l[k]) := by
  unfold settle; rw [List.take_succ_eq_append_getElem h, List.foldl_append]; rfl
theorem iput_empty (o : List In) (d : List UInt8) (ks : List In) : iput o (.mk 0 [] d ks) = o := by simp [iput]
theorem iput_join (o : List In) {t : List UInt8} (h : t ≠ []) (t' d' d : List UInt8) (ks' ks : List In) : iput (o ++ [.mk 0 t' d' ks']) (.mk 0 t d ks) = o ++ [.mk 0 (t' ++ t) d' ks'] := by simp [iput, h]
theorem iput_kind (o : List In) {kd : Nat} (h : kd ≠ 0) (t d : List UInt8) (ks : List In) : iput o (.mk kd t d ks) = o ++ [.mk kd t d ks] := by
  cases kd with
  | zero => exact absurd rfl h
  | succ n => rfl
theorem iput_first {t : List UInt8} (h : t ≠ []) (d : List UInt8) (ks : List In) : iput [] (.mk 0 t d ks) = [.mk 0 t d ks] := by simp [iput, h]
theorem iput_apart (o : List In) {t : List UInt8} (h : t ≠ []) {kd' : Nat} (hk : kd' ≠ 0) (t' d' d : List UInt8) (ks' ks : List In) : iput (o ++ [.mk kd' t' d' ks']) (.mk 0 t d ks) = o ++ [.mk kd' t' d' ks'] ++ [.mk 0 t d ks] := by
  cases kd' with
  | zero => exact absurd rfl hk
  | succ n => simp [iput, h]
theorem eff_none (kd : Nat) (t d : List UInt8) (ks : List In) (n : Nat) (c : UInt8) : eff ⟨.mk kd t d ks, none, n, c⟩ = .mk kd t d ks := rfl
theorem eff_some (kd : Nat) (t d : List UInt8) (ks : List In) (r n : Nat) (c : UInt8) : eff ⟨.mk kd t d ks, some r, n, c⟩ = .mk kd (List.replicate n c) d ks := rfl
end Il

/-- a part's block: its seven cells -/
def PtAt (w : World) (g : Nat) (kd : Nat) (X de : List UInt8) (A : Option Addr) (n c : Nat) : Prop :=
  w.cell? ⟨g, 0, none⟩ = some (.int .i64 (kd : Int)) ∧ w.cell? ⟨g, 1, none⟩ = some (.string (bs X)) ∧ w.cell? ⟨g, 2, none⟩ = some (.string (bs de)) ∧ w.cell? ⟨g, 3, none⟩ = some (.slice A n c)
theorem set_last {cr : List (List Value)} {n : Nat} (hn : cr.flatten.length = n * 4) (a b c d u : Value) : (cr ++ [[a, b, c, d]]).flatten.set (n * 4 + 1) u = (cr ++ [[a, u, c, d]]).flatten := by
  rw [List.flatten_append, List.flatten_append, List.set_append_right _ _ (by omega), hn, show n * 4 + 1 - n * 4 = 1 by omega]
  rfl

end Go.Proofs.YtkfhkfagmokjpaaDoor

namespace Go.Proofs.YtkfhkfagmokjpaaDoor.Il

/-- so many signs fewer at a place -/
def lowerP (l : List Pt) (i s : Nat) : List Pt := l.mapIdx fun j p => if j = i then { p with left := p.left - s } else p
theorem lowerP_len (l : List Pt) (i s : Nat) : (lowerP l i s).length = l.length := by simp [lowerP]
/-- what lies between a pair's two runs is put into one -/
def joinPair (l : List Pt) (x : Nat × Nat × Nat) : List Pt :=
  (lowerP (lowerP l (place l x.1) x.2.2) (place l x.2.1) x.2.2).take (place l x.1 + 1) ++
    [⟨.mk (if x.2.2 = 2 then 3 else 2) [] [] (settle ((l.take (place l x.2.1)).drop (place l x.1 + 1))), none, 0, 0⟩] ++
    (lowerP (lowerP l (place l x.1) x.2.2) (place l x.2.1) x.2.2).drop (place l x.2.1)
def stress (l : List Pt) (runs : List Em.R) : List In := settle ((Em.pairs runs).foldl joinPair l)

/-- the runs among the parts -/
def rns (l : List Pt) : List Nat := l.filterMap fun p => p.run
theorem rns_append (a b : List Pt) : rns (a ++ b) = rns a ++ rns b := by simp [rns]
theorem rns_cons (p : Pt) (b : List Pt) : rns (p :: b) = (match p.run with | some r => [r] | none => []) ++ rns b := by
  unfold rns
  rw [List.filterMap_cons]
  cases p.run <;> rfl
theorem mem_rns {l : List Pt} {r : Nat} : r ∈ rns l ↔ ∃ p ∈ l, p.run = some r := by simp [rns]
theorem place_at {A B : List Pt} {p : Pt} {r : Nat} (h : p.run = some r) (hA : ∀ q ∈ A, q.run ≠ some r) : place (A ++ p :: B) r = A.length := by
  refine il_place_yes (by simp) (by simp [h]) fun q hq => ?_
  rw [List.take_left' rfl] at hq
  exact hA q hq
theorem place_split : ∀ {l : List Pt} {r : Nat}, r ∈ rns l → ∃ A p B, l = A ++ p :: B ∧ p.run = some r ∧ ∀ q ∈ A, q.run ≠ some r
  | [], r, h => by simp [rns] at h
  | x :: l, r, h => by
    by_cases hx : x.run = some r
    · exact ⟨[], x, l, rfl, hx, by simp⟩
    · have h2 : r ∈ rns l := by
        obtain ⟨p, hp, hr⟩ := mem_rns.1 h
        rcases List.mem_cons.1 hp with rfl | hp
        · exact absurd hr hx
        · exact mem_rns.2 ⟨p, hp, hr⟩
      obtain ⟨A, p, B, e, h3, h4⟩ := place_split h2
      refine ⟨x :: A, p, B, by rw [e]; rfl, h3, fun q hq => ?_⟩
      rcases List.mem_cons.1 hq with rfl | hq
      · exact hx
      · exact h4 q hq
/-- two runs, the one ahead of the other -/
theorem place_two {l : List Pt} {a b : Nat} (hs : (rns l).Pairwise (· < ·)) (ha : a ∈ rns l) (hb : b ∈ rns l) (hab : a < b) :
    ∃ A p B q C, l = A ++ p :: (B ++ q :: C) ∧ p.run = some a ∧ q.run = some b ∧ place l a = A.length ∧ place l b = A.length + 1 + B.length ∧ (∀ x ∈ rns A, x < a) ∧ (∀ x ∈ rns B, a < x ∧ x < b) ∧ ∀ x ∈ rns C, b < x := by
  obtain ⟨A, p, R, rfl, hp, hA⟩ := place_split ha
  have e1 : rns (A ++ p :: R) = rns A ++ (a :: rns R) := by rw [rns_append, rns_cons, hp]; rfl
  rw [e1] at hs hb
  rw [List.pairwise_append] at hs
  obtain ⟨_, s2, s3⟩ := hs
  rw [List.pairwise_cons] at s2
  have hbR : b ∈ rns R := by
    rcases List.mem_append.1 hb with h | h
    · have := s3 b h a (by simp); omega
    · rcases List.mem_cons.1 h with h | h
      · omega
      · exact h
  obtain ⟨B, q, C, rfl, hq, hB⟩ := place_split hbR
  have e2 : rns (B ++ q :: C) = rns B ++ (b :: rns C) := by rw [rns_append, rns_cons, hq]; rfl
  have s4 := s2.2
  have s5 := s2.1
  rw [e2] at s4 s5
  rw [List.pairwise_append] at s4
  obtain ⟨_, s6, s7⟩ := s4
  rw [List.pairwise_cons] at s6
  have hAl : ∀ x ∈ rns A, x < a := fun x hx => s3 x hx a (by simp)
  refine ⟨A, p, B, q, C, rfl, hp, hq, place_at hp hA, ?_, hAl, fun x hx => ⟨s5 x (by simp [hx]), s7 x hx b (by simp)⟩, fun x hx => s6.1 x hx⟩
  have e3 : A ++ p :: (B ++ q :: C) = (A ++ p :: B) ++ q :: C := by simp
  rw [e3, place_at hq]
  · simp; omega
  · intro y hy hyr
    rcases List.mem_append.1 hy with h | h
    · have := hAl b (mem_rns.2 ⟨y, h, hyr⟩); omega
    · rcases List.mem_cons.1 h with h | h
      · subst h; rw [hp] at hyr; injection hyr with hyr; omega
      · exact hB y h hyr
theorem lowerP_at (A R : List Pt) (p : Pt) (s : Nat) : lowerP (A ++ p :: R) A.length s = A ++ { p with left := p.left - s } :: R := by
  apply List.ext_getElem?
  intro j
  unfold lowerP
  rw [List.getElem?_mapIdx]
  rcases Nat.lt_trichotomy j A.length with h | h | h
  · rw [List.getElem?_append_left h, List.getElem?_append_left h, List.getElem?_eq_getElem h]
    simp only [Option.map_some, if_neg (show ¬ j = A.length by omega)]
  · subst h
    rw [List.getElem?_append_right (Nat.le_refl _), List.getElem?_append_right (Nat.le_refl _), Nat.sub_self]
    simp
  · rw [List.getElem?_append_right (by omega), List.getElem?_append_right (by omega)]
    obtain ⟨m, hm⟩ : ∃ m, j - A.length = m + 1 := ⟨j - A.length - 1, by omega⟩
    rw [hm, List.getElem?_cons_succ, List.getElem?_cons_succ]
    cases R[m]? with
    | none => rfl
    | some x => simp only [Option.map_some, if_neg (show ¬ j = A.length by omega)]
/-- what a pair makes of the parts, part by part -/
theorem joinPair_eq {A B C : List Pt} {p q : Pt} {a b s : Nat} (ha : place (A ++ p :: (B ++ q :: C)) a = A.length) (hb : place (A ++ p :: (B ++ q :: C)) b = A.length + 1 + B.length) :
    joinPair (A ++ p :: (B ++ q :: C)) (a, b, s) = A ++ { p with left := p.left - s } :: (⟨.mk (if s = 2 then 3 else 2) [] [] (settle B), none, 0, 0⟩ :: { q with left := q.left - s } :: C) := by
  unfold joinPair
  simp only [ha, hb]
  have e1 : ∀ p' : Pt, A ++ p' :: (B ++ q :: C) = (A ++ p' :: B) ++ q :: C := fun p' => by simp
  have hl : ∀ p' : Pt, (A ++ p' :: B).length = A.length + 1 + B.length := fun p' => by simp; omega
  rw [lowerP_at]
  have e2 := lowerP_at (A ++ { p with left := p.left - s } :: B) C q s
  rw [hl] at e2
  rw [e1, e2]
  have e3 : (A ++ { p with left := p.left - s } :: B ++ { q with left := q.left - s } :: C).take (A.length + 1) = A ++ [{ p with left := p.left - s }] := by
    have : A ++ { p with left := p.left - s } :: B ++ { q with left := q.left - s } :: C = (A ++ [{ p with left := p.left - s }]) ++ (B ++ { q with left := q.left - s } :: C) := by simp
    rw [this]; exact List.take_left' (by simp)
  have e4 : (A ++ { p with left := p.left - s } :: B ++ { q with left := q.left - s } :: C).drop (A.length + 1 + B.length) = { q with left := q.left - s } :: C := List.drop_left' (hl _)
  have e5 : ((A ++ p :: (B ++ q :: C)).take (A.length + 1 + B.length)).drop (A.length + 1) = B := by
    rw [e1, List.take_left' (hl p)]
    have : A ++ p :: B = (A ++ [p]) ++ B := by simp
    rw [this]; exact List.drop_left' (by simp)
  rw [e3, e4, e5]
  simp
theorem rns_one (p : Pt) (R : List Pt) {r : Nat} (h : p.run = some r) : rns (p :: R) = r :: rns R := by rw [rns_cons, h]; rfl
/-- behind a pair: the runs between its two are gone, all others are there -/
theorem rns_join {l : List Pt} {a b s : Nat} (hs : (rns l).Pairwise (· < ·)) (ha : a ∈ rns l) (hb : b ∈ rns l) (hab : a < b) :
    (rns (joinPair l (a, b, s))).Pairwise (· < ·) ∧ ∀ r, r ∈ rns l → ¬ (a < r ∧ r < b) → r ∈ rns (joinPair l (a, b, s)) := by
  obtain ⟨A, p, B, q, C, rfl, hp, hq, h1, h2, h3, h4, h5⟩ := place_two hs ha hb hab
  rw [joinPair_eq h1 h2]
  have e1 : rns (A ++ p :: (B ++ q :: C)) = rns A ++ (a :: (rns B ++ (b :: rns C))) := by rw [rns_append, rns_one p _ hp, rns_append, rns_one q _ hq]
  have e2 : rns (A ++ { p with left := p.left - s } :: (⟨.mk (if s = 2 then 3 else 2) [] [] (settle B), none, 0, 0⟩ :: { q with left := q.left - s } :: C)) = rns A ++ (a :: (b :: rns C)) := by
    rw [rns_append, rns_one { p with left := p.left - s } _ hp, rns_cons, rns_one { q with left := q.left - s } _ hq]; rfl
  rw [e1] at hs ⊢
  rw [e2]
  constructor
  · rw [List.pairwise_append] at hs ⊢
    obtain ⟨s1, s2, s3⟩ := hs
    rw [List.pairwise_cons, List.pairwise_append] at s2
    refine ⟨s1, ?_, fun x hx y hy => ?_⟩
    · rw [List.pairwise_cons]
      refine ⟨fun y hy => ?_, s2.2.2.1⟩
      rcases List.mem_cons.1 hy with rfl | hy
      · exact hab
      · have := h5 y hy; omega
    · refine s3 x hx y ?_
      rcases List.mem_cons.1 hy with rfl | hy
      · simp
      · rcases List.mem_cons.1 hy with rfl | hy
        · simp
        · simp [hy]
  · intro r hr hn
    rcases List.mem_append.1 hr with h | h
    · exact List.mem_append.2 (.inl h)
    · refine List.mem_append.2 (.inr ?_)
      rcases List.mem_cons.1 h with rfl | h
      · simp
      · rcases List.mem_append.1 h with h | h
        · exact absurd (h4 r h) hn
        · rcases List.mem_cons.1 h with rfl | h
          · simp
          · simp [h]
/-- pair by pair: the runs that are there stand in their order, those of the pairs to come are there -/
theorem fold_ok {X : List (Nat × Nat × Nat)} {l : List Pt} (h1 : (rns l).Pairwise (· < ·)) (h2 : ∀ x ∈ X, x.1 ∈ rns l ∧ x.2.1 ∈ rns l ∧ x.1 < x.2.1) (h3 : X.Pairwise Em.outside) :
    ∀ k, k ≤ X.length → (rns ((X.take k).foldl joinPair l)).Pairwise (· < ·) ∧ ∀ j (hj : j < X.length), k ≤ j → X[j].1 ∈ rns ((X.take k).foldl joinPair l) ∧ X[j].2.1 ∈ rns ((X.take k).foldl joinPair l) := by
  intro k
  induction k with
  | zero => exact fun _ => ⟨h1, fun j hj _ => ⟨(h2 _ (List.getElem_mem hj)).1, (h2 _ (List.getElem_mem hj)).2.1⟩⟩
  | succ k ih =>
    intro hk
    obtain ⟨i1, i2⟩ := ih (by omega)
    have hk' : k < X.length := by omega
    obtain ⟨j1, j2⟩ := i2 k hk' (Nat.le_refl _)
    rw [List.take_succ_eq_append_getElem hk', List.foldl_append]
    have hj := rns_join (s := X[k].2.2) i1 j1 j2 (h2 _ (List.getElem_mem hk')).2.2
    refine ⟨hj.1, fun j hjl hkj => ?_⟩
    have ho := List.pairwise_iff_getElem.1 h3 k j hk' hjl (by omega)
    obtain ⟨m1, m2⟩ := i2 j hjl (by omega)
    exact ⟨hj.2 _ m1 ho.1, hj.2 _ m2 ho.2⟩
theorem heft_append (a b : List Pt) : heft (a ++ b) = heft a + heft b := by simp [heft]
theorem heft_cons (p : Pt) (b : List Pt) : heft (p :: b) = tlen (eff p) + heft b := by simp [heft]
theorem eff_less {p : Pt} {r : Nat} (h : p.run = some r) (s : Nat) : tlen (eff { p with left := p.left - s }) ≤ tlen (eff p) := by
  obtain ⟨⟨kd, t, d, ks⟩, rn, n, c⟩ := p
  simp only at h
  subst h
  simp only [eff_some, tlen, List.length_replicate]
  omega
/-- what the runs' signs and the plains weigh: a pair makes it no more -/
theorem heft_join {l : List Pt} {a b s : Nat} (hs : (rns l).Pairwise (· < ·)) (ha : a ∈ rns l) (hb : b ∈ rns l) (hab : a < b) : heft (joinPair l (a, b, s)) ≤ heft l ∧ (joinPair l (a, b, s)).length ≤ l.length + 1 := by
  obtain ⟨A, p, B, q, C, rfl, hp, hq, h1, h2, _, _, _⟩ := place_two hs ha hb hab
  rw [joinPair_eq h1 h2]
  have e1 := eff_less hp s
  have e2 := eff_less hq s
  constructor
  · rw [heft_append, heft_append, heft_cons, heft_cons, heft_cons, heft_cons, heft_append, heft_cons]
    have e3 : tlen (eff ⟨.mk (if s = 2 then 3 else 2) [] [] (settle B), none, 0, 0⟩) = 0 := rfl
    omega
  · simp only [List.length_append, List.length_cons]; omega
theorem heft_mid (A B C : List Pt) (p q : Pt) : heft B ≤ heft (A ++ p :: (B ++ q :: C)) := by
  rw [heft_append, heft_cons, heft_append]; omega
end Go.Proofs.YtkfhkfagmokjpaaDoor.Il

namespace Go.Proofs.YtkfhkfagmokjpaaDoor.Il
open Go.Lib

/-- what has been read: parts, runs -/
structure Sc where
  l : List Pt
  runs : List Em.R
/-- a link at a place: where it leads, where its text ends, where it ends -/
def linkAt (s : List UInt8) (i : Nat) : Option (List UInt8 × Nat × Nat) :=
  match Lk.close s (i : Int) with
  | none => none
  | some j => (match Lk.dest s ((j : Int) + 1) with | none => none | some (d, e) => some (d, j, e))
/-- one piece of the text: where the next one is, what has been read -/
def piece (link : Bool) (inner : List UInt8 → List In) (s : List UInt8) (i : Nat) (st : Sc) : Nat × Sc :=
  if s.getD i 0 = 96 then
    (match Cd.span s (i : Int) with
     | some (t, e) => (e, ⟨st.l ++ [⟨.mk 1 t [] [], none, 0, 0⟩], st.runs⟩)
     | none => (i + Fn.run 96 (s.drop i), ⟨pput st.l (mid s i (i + Fn.run 96 (s.drop i))), st.runs⟩))
  else match (if link = true then none else Lk.auto s (i : Int)) with
  | some (t, e) => (e, ⟨st.l ++ [⟨.mk 4 [] t [word (Ru.enc (Ru.runes t))], none, 0, 0⟩], st.runs⟩)
  | none => match (if link = true then none else linkAt s i) with
    | some (d, j, e) => (e, ⟨st.l ++ [⟨.mk 4 [] d (inner (mid s (i + 1) j)), none, 0, 0⟩], st.runs⟩)
    | none => match Em.kind s (i : Int) with
      | some (r, e) => (e, ⟨st.l ++ [⟨none_, some st.runs.length, r.n.toNat, r.ch⟩], st.runs ++ [r]⟩)
      | none => if s.getD i 0 = 10 then (i + 1, ⟨st.l ++ [⟨.mk 5 [] [] [], none, 0, 0⟩], st.runs⟩)
                else ((Es.next s i).2.1, ⟨pput st.l (encodeRune ((Es.next s i).1 : Int)), st.runs⟩)
def scanF (link : Bool) (inner : List UInt8 → List In) : Nat → List UInt8 → Nat → Sc → Sc
  | 0, _, _, st => st
  | f + 1, s, i, st => if i < s.length then scanF link inner f s (piece link inner s i st).1 (piece link inner s i st).2 else st
def scan (link : Bool) (inner : List UInt8 → List In) (s : List UInt8) (i : Nat) (st : Sc) : Sc := scanF link inner (s.length + 1 - i) s i st
def within (link : Bool) (inner : List UInt8 → List In) (s : List UInt8) : List In :=
  stress (scan link inner s 0 ⟨[], []⟩).l (scan link inner s 0 ⟨[], []⟩).runs
/-- a text within a link: no link in it -/
def inLink (s : List UInt8) : List In := within true (fun _ => []) s
def parse (s : List UInt8) : List In := within false inLink s

theorem kind_spec {s : List UInt8} {i : Nat} {r : Em.R} {e : Nat} (h : Em.kind s (i : Int) = some (r, e)) : i < e ∧ e ≤ s.length := by
  unfold Em.kind at h
  split at h
  · rename_i hs
    have hi : i < s.length := by unfold Em.starts at hs; have := (of_decide_eq_true hs).2.1; simpa using this
    rw [show ((i : Int)).toNat = i from by omega, Em.getD_at hi] at h
    simp only [Option.some.injEq, Prod.mk.injEq] at h
    have h1 := Em.run_pos hi
    have h2 := Em.runs_in hi s[i]
    omega
  · cases h
theorem dest_spec {s : List UInt8} {k : Nat} {d : List UInt8} {e : Nat} (h : Lk.dest s (k : Int) = some (d, e)) : k < e ∧ e ≤ s.length := by
  unfold Lk.dest at h
  split at h
  · rename_i hc
    obtain ⟨j, hj, he⟩ := Option.map_eq_some_iff.1 h
    injection he with _ he
    have := Lk.dends_spec _ _ _ hj
    simp only [Int.toNat_natCast] at this
    omega
  · cases h
theorem closeF_spec {s : List UInt8} : ∀ (f i d k : Nat), Lk.closeF f s i d = some k → i ≤ k ∧ k < s.length
  | 0, _, _, _, h => by simp [Lk.closeF] at h
  | f + 1, i, d, k, h => by
    unfold Lk.closeF at h
    split at h
    · rename_i hi
      have hm := Lk.hop_more hi
      split at h
      · split at h
        · injection h with h; omega
        · have := closeF_spec f _ _ k h; omega
      · have := closeF_spec f _ _ k h; omega
    · cases h
theorem link_spec {s : List UInt8} {i : Nat} {d : List UInt8} {j e : Nat} (h : linkAt s i = some (d, j, e)) : i < j ∧ j < e ∧ e ≤ s.length := by
  unfold linkAt at h
  split at h
  · cases h
  · rename_i j' hj
    split at h
    · cases h
    · rename_i d' e' he
      simp only [Option.some.injEq, Prod.mk.injEq] at h
      have h1 := dest_spec (k := j' + 1) (by rw [Int.natCast_add]; exact he)
      unfold Lk.close at hj
      split at hj
      · have := closeF_spec _ _ _ _ hj
        simp only [Int.toNat_natCast] at this
        omega
      · cases hj
/-- each piece has something, and ends in the text -/
theorem piece_more (link : Bool) (inner : List UInt8 → List In) {s : List UInt8} {i : Nat} (h : i < s.length) (st : Sc) : i < (piece link inner s i st).1 ∧ (piece link inner s i st).1 ≤ s.length := by
  unfold piece
  by_cases h96 : s.getD i 0 = 96
  · rw [if_pos h96]
    cases hs : Cd.span s (i : Int) with
    | some x =>
      obtain ⟨t, e⟩ := x
      have := Cd.span_spec hs
      simp only [Int.toNat_natCast] at this ⊢
      omega
    | none =>
      have hr : 1 ≤ Fn.run 96 (s.drop i) := by rw [Fn.run_at h (by simpa [List.getD, List.getElem?_eq_getElem h] using h96)]; omega
      have := Fn.run_le 96 (s.drop i)
      rw [List.length_drop] at this
      simp only
      omega
  · rw [if_neg h96]
    cases ha : (if link = true then none else Lk.auto s (i : Int)) with
    | some x =>
      obtain ⟨t, e⟩ := x
      split at ha
      · cases ha
      · have := Lk.auto_spec ha
        simp only; omega
    | none =>
      simp only
      cases hl : (if link = true then none else linkAt s i) with
      | some x =>
        obtain ⟨d, j, e⟩ := x
        split at hl
        · cases hl
        · have := link_spec hl
          simp only; omega
      | none =>
        simp only
        cases hk : Em.kind s (i : Int) with
        | some x =>
          obtain ⟨r, e⟩ := x
          have := kind_spec hk
          simp only; omega
        | none =>
          simp only
          have := Es.next_more h
          split <;> simp only <;> omega
theorem scanF_fuel (link : Bool) (inner : List UInt8 → List In) : ∀ (f g : Nat) (s : List UInt8) (i : Nat) (st : Sc), s.length < f + i → s.length < g + i → scanF link inner f s i st = scanF link inner g s i st
  | 0, 0, _, _, _, _, _ => rfl
  | 0, g + 1, s, i, st, h, _ => by unfold scanF; rw [if_neg (by omega)]
  | f + 1, 0, s, i, st, _, h => by unfold scanF; rw [if_neg (by omega)]
  | f + 1, g + 1, s, i, st, hf, hg => by
    unfold scanF
    by_cases hi : i < s.length
    · have hm := piece_more link inner hi st
      rw [if_pos hi, if_pos hi, scanF_fuel link inner f g s _ _ (by omega) (by omega)]
    · rw [if_neg hi, if_neg hi]
theorem scan_end (link : Bool) (inner : List UInt8 → List In) {s : List UInt8} {i : Nat} (h : s.length ≤ i) (st : Sc) : scan link inner s i st = st := by
  unfold scan
  cases s.length + 1 - i with
  | zero => rfl
  | succ f => unfold scanF; rw [if_neg (by omega)]
theorem scan_step (link : Bool) (inner : List UInt8 → List In) {s : List UInt8} {i : Nat} (h : i < s.length) (st : Sc) :
    scan link inner s i st = scan link inner s (piece link inner s i st).1 (piece link inner s i st).2 := by
  have hm := piece_more link inner h st
  unfold scan
  obtain ⟨f, hf⟩ : ∃ f, s.length + 1 - i = f + 1 := ⟨s.length - i, by omega⟩
  rw [hf]
  conv => lhs; unfold scanF
  rw [if_pos h, scanF_fuel link inner f (s.length + 1 - (piece link inner s i st).1) s _ _ (by omega) (by omega)]
end Go.Proofs.YtkfhkfagmokjpaaDoor.Il

namespace Go.Proofs.YtkfhkfagmokjpaaDoor
open Go.RowKit

theorem PCs_append {w : World} {Q : Nat → Prop} : ∀ {l : List Il.Pt} {css : List (List Value)} {l' : List Il.Pt} {css' : List (List Value)}, PCs w Q l css → PCs w Q l' css' → PCs w Q (l ++ l') (css ++ css')
  | [], _, _, _, h, h' => by cases h; exact h'
  | _ :: _, _, _, _, ⟨c0, cr, h1, h2, h3⟩, h' => by subst h1; exact ⟨c0, cr ++ _, rfl, h2, PCs_append h3 h'⟩
theorem PCs_take {w : World} {Q : Nat → Prop} : ∀ {l : List Il.Pt} {css : List (List Value)} (k : Nat), PCs w Q l css → PCs w Q (l.take k) (css.take k)
  | [], css, k, h => by cases h; simp [PCs]
  | _ :: _, _, 0, _ => rfl
  | _ :: _, _, k + 1, ⟨c0, cr, h1, h2, h3⟩ => by subst h1; exact ⟨c0, cr.take k, rfl, h2, PCs_take k h3⟩
theorem PCs_drop {w : World} {Q : Nat → Prop} : ∀ {l : List Il.Pt} {css : List (List Value)} (k : Nat), PCs w Q l css → PCs w Q (l.drop k) (css.drop k)
  | [], css, k, h => by cases h; simp [PCs]
  | _ :: _, _, 0, h => h
  | _ :: _, _, k + 1, ⟨c0, cr, h1, h2, h3⟩ => by subst h1; exact PCs_drop k h3
/-- all are of seven cells -/
def Sev (css : List (List Value)) : Prop := ∀ c ∈ css, c.length = 7
theorem PCs_sev {w : World} {Q : Nat → Prop} : ∀ {l : List Il.Pt} {css : List (List Value)}, PCs w Q l css → Sev css
  | [], css, h => by cases h; intro c hc; simp at hc
  | _ :: _, _, ⟨c0, cr, h1, h2, h3⟩ => by
    subst h1
    intro c hc
    rcases List.mem_cons.1 hc with rfl | hc
    · exact PC_length h2
    · exact PCs_sev h3 c hc
theorem sev_len {css : List (List Value)} (h : Sev css) : css.flatten.length = css.length * 7 := by
  induction css with
  | nil => rfl
  | cons c r ih =>
    rw [List.flatten_cons, List.length_append, h c (by simp), ih (fun c hc => h c (by simp [hc])), List.length_cons]; omega
theorem sev_drop {css : List (List Value)} (h : Sev css) : ∀ k, css.flatten.drop (k * 7) = (css.drop k).flatten := by
  induction css with
  | nil => intro k; simp
  | cons c r ih =>
    intro k
    cases k with
    | zero => simp
    | succ k =>
      have hc := h c (by simp)
      rw [List.drop_succ_cons, ← ih (fun c hc => h c (by simp [hc])) k, List.flatten_cons, List.drop_append, List.drop_of_length_le (by rw [hc]; omega), List.nil_append, hc, show (k + 1) * 7 - 7 = k * 7 by omega]
theorem sev_take {css : List (List Value)} (h : Sev css) : ∀ k, css.flatten.take (k * 7) = (css.take k).flatten := by
  induction css with
  | nil => intro k; simp
  | cons c r ih =>
    intro k
    cases k with
    | zero => simp
    | succ k =>
      have hc := h c (by simp)
      rw [List.take_succ_cons, List.flatten_cons, List.flatten_cons, ← ih (fun c hc => h c (by simp [hc])) k, List.take_append, List.take_of_length_le (by rw [hc]; omega), hc, show (k + 1) * 7 - 7 = k * 7 by omega]
theorem sev_drop' {css : List (List Value)} (h : Sev css) (k : Nat) : Sev (css.drop k) := fun c hc => h c (List.mem_of_mem_drop hc)
theorem sev_take' {css : List (List Value)} (h : Sev css) (k : Nat) : Sev (css.take k) := fun c hc => h c (List.mem_of_mem_take hc)
/-- a part of a row -/
theorem RowI.cut {w : World} {Q : Nat → Prop} {A : Option Addr} {n : Nat} {css : List (List Value)} (h : RowI w Q 7 A n css.flatten) (hs : Sev css) {c lo hi : Nat} (h1 : lo ≤ hi) (h2 : hi ≤ n) (h3 : n ≤ c) :
    RowI w Q 7 (cutA 7 A c lo) (hi - lo) (((css.take hi).drop lo).flatten) := by
  have hl := h.1
  rw [sev_len hs] at hl
  have hcl : css.length = n := by omega
  have hsl : Sev ((css.take hi).drop lo) := sev_drop' (sev_take' hs _) _
  refine ⟨?_, fun hn => ?_⟩
  · rw [sev_len hsl, List.length_drop, List.length_take]; omega
  · obtain ⟨b, o, rfl, hq, hc⟩ := h.2 (by omega)
    refine ⟨b, o + lo * 7, ?_, hq, fun j u hu => ?_⟩
    · unfold cutA
      rw [if_neg (by omega)]
      simp only [Option.map_some, Addr.add]
      split
      · rename_i h0; rw [h0]; rfl
      · rfl
    · rw [← sev_drop (sev_take' hs hi), ← sev_take hs, List.getElem?_drop, List.getElem?_take] at hu
      split at hu
      · have := hc _ _ hu
        rwa [← Nat.add_assoc] at this
      · cases hu
/-- one of the parts is another one -/
theorem PCs_set {w : World} {Q : Nat → Prop} : ∀ {l : List Il.Pt} {css : List (List Value)} (k : Nat) {p : Il.Pt} {cs : List Value}, PCs w Q l css → PC w Q p cs → PCs w Q (l.set k p) (css.set k cs)
  | [], css, k, p, cs, h, _ => by cases h; simp [PCs]
  | _ :: _, _, 0, _, cs, ⟨c0, cr, h1, h2, h3⟩, hp => by subst h1; exact ⟨cs, cr, rfl, hp, h3⟩
  | _ :: _, _, k + 1, _, cs, ⟨c0, cr, h1, h2, h3⟩, hp => by subst h1; exact ⟨c0, cr.set k cs, rfl, h2, PCs_set k h3 hp⟩
theorem sev_set {css : List (List Value)} (h : Sev css) : ∀ (k j : Nat) (u : Value) (hk : k < css.length), j < 7 → css.flatten.set (k * 7 + j) u = (css.set k (css[k].set j u)).flatten := by
  induction css with
  | nil => intro k j u hk; simp at hk
  | cons c r ih =>
    intro k j u hk hj
    have hc := h c (by simp)
    cases k with
    | zero =>
      rw [List.flatten_cons, List.set_append_left _ _ (by rw [hc]; omega)]
      simp
    | succ k =>
      rw [List.flatten_cons, List.set_append_right _ _ (by rw [hc]; omega), hc, show (k + 1) * 7 + j - 7 = k * 7 + j by omega, ih (fun c hc => h c (by simp [hc])) k j u (by simpa using hk) hj]
      simp
theorem PCs_get {w : World} {Q : Nat → Prop} : ∀ {l : List Il.Pt} {css : List (List Value)}, PCs w Q l css → ∀ {k : Nat} (hk : k < l.length) (hk' : k < css.length), PC w Q l[k] css[k]
  | [], _, _, _, hk, _ => by simp at hk
  | _ :: _, _, ⟨c0, cr, h1, h2, h3⟩, 0, _, _ => by subst h1; exact h2
  | _ :: _, _, ⟨c0, cr, h1, h2, h3⟩, k + 1, hk, hk' => by subst h1; exact PCs_get h3 (k := k) (by simpa using hk) (by simpa using hk')
/-- fewer signs left of one -/
theorem lowerP_set {l : List Il.Pt} {i s : Nat} (h : i < l.length) : Il.lowerP l i s = l.set i { l[i] with left := l[i].left - s } := by
  apply List.ext_getElem?
  intro j
  unfold Il.lowerP
  rw [List.getElem?_mapIdx, List.getElem?_set]
  by_cases hj : i = j
  · subst hj
    rw [if_pos rfl, if_pos h, List.getElem?_eq_getElem h]; simp
  · rw [if_neg hj]
    rcases Nat.lt_or_ge j l.length with h3 | h3
    · rw [List.getElem?_eq_getElem h3]; simp [Ne.symm hj]
    · rw [List.getElem?_eq_none h3]; rfl
/-- its cells: the sixth is set -/
theorem PCs_lower {w : World} {Q : Nat → Prop} {l : List Il.Pt} {css : List (List Value)} (h : PCs w Q l css) {i s : Nat} (hi : i < l.length) (hs : s ≤ l[i].left) :
    PCs w Q (Il.lowerP l i s) (css.set i ((css[i]'(by rw [(PCs_length h).2]; exact hi)).set 5 (.int .i64 ((l[i].left : Int) - s)))) ∧ css.flatten.set (i * 7 + 5) (.int .i64 ((l[i].left : Int) - s)) = (css.set i ((css[i]'(by rw [(PCs_length h).2]; exact hi)).set 5 (.int .i64 ((l[i].left : Int) - s)))).flatten ∧
      css.flatten[i * 7 + 5]? = some (.int .i64 (l[i].left : Int)) := by
  have hic : i < css.length := by rw [(PCs_length h).2]; exact hi
  have hp := PCs_get h hi hic
  obtain ⟨cs, hcs, hat⟩ := PCs_at h hi
  refine ⟨?_, sev_set (PCs_sev h) i 5 _ hic (by omega), ?_⟩
  · rw [lowerP_set hi]
    refine PCs_set i h ?_
    obtain ⟨ic, h1, h2⟩ := hp
    refine ⟨ic, h1, ?_⟩
    have hl := IC_length h1
    rw [h2, List.set_append_right _ _ (by omega), hl]
    have e : ((l[i].left : Int) - s) = ((l[i].left - s : Nat) : Int) := by omega
    rw [e]; rfl
  · obtain ⟨ic, h1, h2⟩ := hcs
    have hl := IC_length h1
    rw [hat 5 (by omega), h2, List.getElem?_append_right (by omega), hl]; rfl
/-- two of them -/
theorem PCs_two {w : World} {Q : Nat → Prop} {l : List Il.Pt} {css : List (List Value)} (h : PCs w Q l css) {a b s : Nat} {PA PB : Il.Pt} (ha : l[a]? = some PA) (hb : l[b]? = some PB) (hab : a ≠ b) (hsa : s ≤ PA.left) (hsb : s ≤ PB.left) :
    ∃ css2, PCs w Q (Il.lowerP (Il.lowerP l a s) b s) css2 ∧ (css.flatten.set (a * 7 + 5) (.int .i64 ((PA.left : Int) - s))).set (b * 7 + 5) (.int .i64 ((PB.left : Int) - s)) = css2.flatten ∧
      css.flatten[a * 7 + 5]? = some (.int .i64 (PA.left : Int)) ∧ css.flatten[b * 7 + 5]? = some (.int .i64 (PB.left : Int)) := by
  obtain ⟨hal, hae⟩ := List.getElem?_eq_some_iff.1 ha
  obtain ⟨hbl, hbe⟩ := List.getElem?_eq_some_iff.1 hb
  obtain ⟨h1, h2, h3⟩ := PCs_lower h (i := a) (s := s) hal (by rw [hae]; exact hsa)
  obtain ⟨_, _, h3'⟩ := PCs_lower h (i := b) (s := s) hbl (by rw [hbe]; exact hsb)
  have hbl' : b < (Il.lowerP l a s).length := by rw [Il.lowerP_len]; exact hbl
  have hbe' : (Il.lowerP l a s)[b] = PB := by
    have e : (Il.lowerP l a s)[b]? = some PB := by
      rw [lowerP_set hal, List.getElem?_set_ne hab]; exact hb
    rw [List.getElem?_eq_getElem hbl'] at e
    exact Option.some.inj e
  obtain ⟨k1, k2, _⟩ := PCs_lower h1 (i := b) (s := s) hbl' (by rw [hbe']; exact hsb)
  rw [hae] at h2 h3
  rw [hbe] at h3'
  simp only [hae, hbe'] at k1 k2 h2
  exact ⟨_, k1, by rw [h2]; exact k2, h3, h3'⟩
end Go.Proofs.YtkfhkfagmokjpaaDoor

namespace Go.Proofs.YtkfhkfagmokjpaaDoor
open Go.RowKit

namespace Il
theorem pput_nil (s : List UInt8) : pput [] s = [⟨word s, none, 0, 0⟩] := rfl
theorem pput_join (l : List Pt) (t d s : List UInt8) (ks : List In) (n : Nat) (c : UInt8) : pput (l ++ [⟨.mk 0 t d ks, none, n, c⟩]) s = l ++ [⟨.mk 0 (t ++ s) d ks, none, n, c⟩] := by simp [pput]
theorem pput_run (l : List Pt) (x : In) (r n : Nat) (c : UInt8) (s : List UInt8) : pput (l ++ [⟨x, some r, n, c⟩]) s = l ++ [⟨x, some r, n, c⟩] ++ [⟨word s, none, 0, 0⟩] := by simp [pput]
theorem pput_kind (l : List Pt) {kd : Nat} (h : kd ≠ 0) (t d : List UInt8) (ks : List In) (r : Option Nat) (n : Nat) (c : UInt8) (s : List UInt8) : pput (l ++ [⟨.mk kd t d ks, r, n, c⟩]) s = l ++ [⟨.mk kd t d ks, r, n, c⟩] ++ [⟨word s, none, 0, 0⟩] := by
  cases kd with
  | zero => exact absurd rfl h
  | succ k => simp [pput]
end Il
theorem set_last7 {cr : List (List Value)} {n : Nat} (hn : cr.flatten.length = n * 7) (a b c d e f g u : Value) : (cr ++ [[a, b, c, d, e, f, g]]).flatten.set (n * 7 + 1) u = (cr ++ [[a, u, c, d, e, f, g]]).flatten := by
  rw [List.flatten_append, List.flatten_append, List.set_append_right _ _ (by omega), hn, show n * 7 + 1 - n * 7 = 1 by omega]
  rfl
theorem PC_word (w : World) (Q : Nat → Prop) (s : List UInt8) : PC w Q ⟨Il.word s, none, 0, 0⟩ [.int .i64 0, .string (bs s), .string ⟨#[]⟩, .slice none 0 0, .int .i64 (-1), .int .i64 0, .int .u8 0] :=
  ⟨[.int .i64 0, .string (bs s), .string ⟨#[]⟩, .slice none 0 0], by unfold Il.word IC; exact ⟨none, 0, [], rfl, Nat.le_refl _, ⟨rfl, fun h => absurd h (by simp)⟩, ICs_nil⟩, rfl⟩

end Go.Proofs.YtkfhkfagmokjpaaDoor

namespace Go.Proofs.YtkfhkfagmokjpaaDoor
open Go.RowKit
attribute [local go_sem] canOp readsAs readUpon

theorem run_cut_l {P : Program} {T : TypeId} (hT : P.underlying T = some (.slice (P.elem T))) (size : Nat) (hsz : ∀ w, (sizeOf (P.elem T)).run P w = .ok size w) (A : Option Addr) (n c lo : Nat) (h1 : lo ≤ n) (w : World) :
    (Instr.slice T (.slice A n c) (some (.int .i64 (lo : Int))) none none).run P w = .ok (.slice (cutA size A c lo) (n - lo) (c - lo)) w := by
  rw [run_slice_l w T A n c hT .i64 lo (by omega) (by omega), hsz]
  simp [sliced, cutA, Result.andThen]
/-- a part's seven cells, as they lie -/
def sevenC (kd : Int) (t d : ByteArray) (ks : Value) (r n ch : Int) : List Value := [.int .i64 kd, .string t, .string d, ks, .int .i64 r, .int .i64 n, .int .u8 ch]

end Go.Proofs.YtkfhkfagmokjpaaDoor

namespace Go.Proofs.YtkfhkfagmokjpaaDoor
open Go.RowKit
attribute [local go_sem] canOp readsAs readUpon

end Go.Proofs.YtkfhkfagmokjpaaDoor

namespace Go.Proofs.YtkfhkfagmokjpaaDoor.Il

/-- each run among the parts has what its pairs left it -/
def LeftOK (N : Nat → Nat) (Y : List (Nat × Nat × Nat)) (l : List Pt) : Prop := ∀ p ∈ l, ∀ r, p.run = some r → p.left + Em.used Y r = N r
theorem used_snoc' (Y : List (Nat × Nat × Nat)) (x : Nat × Nat × Nat) (r : Nat) : Em.used (Y ++ [x]) r = Em.used Y r + ((if x.1 = r then x.2.2 else 0) + if x.2.1 = r then x.2.2 else 0) := Em.used_snoc Y x r
/-- the two runs of a pair have enough -/
theorem left_two {N : Nat → Nat} {Y : List (Nat × Nat × Nat)} {l : List Pt} {a b s : Nat} (hL : LeftOK N Y l) (hN : ∀ r, Em.used (Y ++ [(a, b, s)]) r ≤ N r) (hs : (rns l).Pairwise (· < ·)) (ha : a ∈ rns l) (hb : b ∈ rns l) (hab : a < b) :
    ∃ (h1 : place l a < l.length) (h2 : place l b < l.length), place l a < place l b ∧ s ≤ l[place l a].left ∧ s ≤ l[place l b].left ∧ l[place l a].left ≤ N a ∧ l[place l b].left ≤ N b ∧ l[place l a].run = some a ∧ l[place l b].run = some b := by
  obtain ⟨A, p, B, q, C, rfl, hp, hq, h1, h2, h3, h4, h5⟩ := place_two hs ha hb hab
  have la : place (A ++ p :: (B ++ q :: C)) a < (A ++ p :: (B ++ q :: C)).length := by rw [h1]; simp
  have lb : place (A ++ p :: (B ++ q :: C)) b < (A ++ p :: (B ++ q :: C)).length := by rw [h2]; simp; omega
  have ga : (A ++ p :: (B ++ q :: C))[place (A ++ p :: (B ++ q :: C)) a] = p := by
    have : (A ++ p :: (B ++ q :: C))[place (A ++ p :: (B ++ q :: C)) a]? = some p := by rw [h1]; simp
    rw [List.getElem?_eq_getElem la] at this
    exact Option.some.inj this
  have gb : (A ++ p :: (B ++ q :: C))[place (A ++ p :: (B ++ q :: C)) b] = q := by
    have : (A ++ p :: (B ++ q :: C))[place (A ++ p :: (B ++ q :: C)) b]? = some q := by
      rw [h2, show A ++ p :: (B ++ q :: C) = (A ++ p :: B) ++ q :: C by simp, List.getElem?_append_right (by simp; omega)]
      have : A.length + 1 + B.length - (A ++ p :: B).length = 0 := by simp; omega
      rw [this]; rfl
    rw [List.getElem?_eq_getElem lb] at this
    exact Option.some.inj this
  have up := hL p (by simp) a hp
  have uq := hL q (by simp) b hq
  have n1 := hN a
  have n2 := hN b
  rw [Em.used_snoc] at n1 n2
  simp only at n1 n2
  rw [if_pos trivial, if_neg (show ¬ b = a by omega)] at n1
  rw [if_neg (show ¬ a = b by omega), if_pos trivial] at n2
  refine ⟨la, lb, by omega, ?_, ?_, ?_, ?_, ?_, ?_⟩
  · rw [ga]; omega
  · rw [gb]; omega
  · rw [ga]; omega
  · rw [gb]; omega
  · rw [ga]; exact hp
  · rw [gb]; exact hq
theorem left_join {N : Nat → Nat} {Y : List (Nat × Nat × Nat)} {l : List Pt} {a b s : Nat} (hL : LeftOK N Y l) (hN : ∀ r, Em.used (Y ++ [(a, b, s)]) r ≤ N r) (hs : (rns l).Pairwise (· < ·)) (ha : a ∈ rns l) (hb : b ∈ rns l) (hab : a < b) :
    LeftOK N (Y ++ [(a, b, s)]) (joinPair l (a, b, s)) := by
  obtain ⟨A, p, B, q, C, rfl, hp, hq, h1, h2, h3, h4, h5⟩ := place_two hs ha hb hab
  rw [joinPair_eq h1 h2]
  have n1 := hN a
  have n2 := hN b
  rw [Em.used_snoc] at n1 n2
  simp only at n1 n2
  rw [if_pos trivial, if_neg (show ¬ b = a by omega)] at n1
  rw [if_neg (show ¬ a = b by omega), if_pos trivial] at n2
  intro x hx r hr
  rw [Em.used_snoc]
  simp only
  have other : ∀ y ∈ A ++ p :: (B ++ q :: C), ∀ r, y.run = some r → r ≠ a → r ≠ b → y.left + (Em.used Y r + ((if a = r then s else 0) + if b = r then s else 0)) = N r := by
    intro y hy r hr n1 n2
    have := hL y hy r hr
    rw [if_neg (Ne.symm n1), if_neg (Ne.symm n2)]; omega
  rcases List.mem_append.1 hx with h | h
  · have hm : r ∈ rns A := mem_rns.2 ⟨x, h, hr⟩
    have := h3 r hm
    exact other x (by simp [h]) r hr (by omega) (by omega)
  · rcases List.mem_cons.1 h with rfl | h
    · have e : r = a := by simp only at hr; rw [hp] at hr; exact (Option.some.inj hr).symm
      subst e
      have := hL p (by simp) r hp
      rw [if_pos rfl, if_neg (by omega)]
      simp only; omega
    · rcases List.mem_cons.1 h with rfl | h
      · simp at hr
      · rcases List.mem_cons.1 h with rfl | h
        · have e : r = b := by simp only at hr; rw [hq] at hr; exact (Option.some.inj hr).symm
          subst e
          have := hL q (by simp) r hq
          rw [if_neg (by omega), if_pos rfl]
          simp only; omega
        · have hm : r ∈ rns C := mem_rns.2 ⟨x, h, hr⟩
          have := h5 r hm
          exact other x (by simp [h]) r hr (by omega) (by omega)
theorem used_part (X : List (Nat × Nat × Nat)) (k r : Nat) : Em.used (X.take k) r ≤ Em.used X r := by
  conv => rhs; rw [← List.take_append_drop k X]
  unfold Em.used
  rw [List.map_append, List.sum_append]; omega
end Go.Proofs.YtkfhkfagmokjpaaDoor.Il

namespace Go.Proofs.YtkfhkfagmokjpaaDoor
open Go.RowKit

/-- blocks of the call's own, but one row's -/
def IlQB (base : Nat) (v : Value) (w : World) : Nat → Prop := fun b => base ≤ b ∧ b < w.heap.size ∧ v.ownBlock ≠ some b
theorem IlQB.ext {base : Nat} {v : Value} {w u : World} (hu : Ext w u) {b : Nat} (h : IlQB base v w b) : IlQB base v u b := ⟨h.1, Nat.lt_of_lt_of_le h.2.1 hu.size, h.2.2⟩
theorem PCs_ext {base : Nat} {v : Value} {w u : World} (hu : Ext w u) {l : List Il.Pt} {css : List (List Value)} (h : PCs w (IlQB base v w) l css) : PCs u (IlQB base v u) l css :=
  PCs_frame (fun b hb => hu.block b hb.2.1) (fun _ hb => hb.ext hu) h
theorem PCs_one {w : World} {Q : Nat → Prop} : ∀ {l : List Il.Pt} {css : List (List Value)}, PCs w Q l css → ∀ u ∈ css.flatten, u.oneCell' = true
  | [], css, h => by cases h; intro u hu; simp at hu
  | ⟨.mk kd t d ks, rn, n, ch⟩ :: _, _, ⟨c0, cr, h1, h2, h3⟩ => by
    subst h1
    intro u hu
    rw [List.flatten_cons] at hu
    rcases List.mem_append.1 hu with hu | hu
    · obtain ⟨A, c, css, rfl, _⟩ := PC_form h2
      simp only [List.mem_cons, List.not_mem_nil, or_false] at hu
      rcases hu with rfl | rfl | rfl | rfl | rfl | rfl | rfl <;> rfl
    · exact PCs_one h3 u hu
theorem il_own_rowQ {w : World} {base : Nat} {e : TypeId} {size n : Nat} {v : Value} {A : Option Addr} {c : Nat} {xs : List Value} (h : w.ownsRow base e size v n xs) (hv : v = .slice A n c) : RowI w (fun b => base ≤ b ∧ b < w.heap.size) size A n xs := by
  subst hv; exact own_rowI h
theorem il_some {w : World} {B size n : Nat} {E : TypeId} {v : Value} {xs : List Value} (h : w.ownsRow B E size v n xs) (hn : 0 < n) : ∃ g c, v = .slice (some ⟨g, 0, none⟩) n c ∧ n ≤ c ∧ B ≤ g ∧ g < w.heap.size := by
  rcases h.2 with ⟨_, h0⟩ | ⟨g, c, cur, rfl, hB, hg, hc, _⟩
  · omega
  · exact ⟨g, c, rfl, hc, hB, (Array.getElem?_eq_some_iff.1 hg).1⟩
theorem run_short7 {P : Program} {T : TypeId} (hT : P.underlying T = some (.slice (P.elem T))) (size : Nat) (hsz : ∀ w, (sizeOf (P.elem T)).run P w = .ok size w) (g n c hi : Nat) {v : Int} (hv : v = (hi : Int)) (h2 : hi ≤ c) (w : World) :
    (Instr.slice T (.slice (some ⟨g, 0, none⟩) n c) none (some (.int .i64 v)) none).run P w = .ok (.slice (some ⟨g, 0, none⟩) hi c) w := by
  subst hv
  rw [run_slice_h w T (some ⟨g, 0, none⟩) n c hT .i64 hi (by omega) (by omega), hsz]
  simp [sliced, Result.andThen]
  intro _
  unfold Addr.add
  split <;> simp_all

/-! ### what holds behind each pair -/
/-- how many signs a run has -/
def Il.cnt (runs : List Em.R) (r : Nat) : Nat := (Em.get runs r).n.toNat
structure Il.Ready (l : List Il.Pt) (runs : List Em.R) : Prop where
  sorted : (Il.rns l).Pairwise (· < ·)
  all : ∀ i, i < runs.length → i ∈ Il.rns l
  left : ∀ p ∈ l, ∀ r, p.run = some r → p.left = Il.cnt runs r
  pos : ∀ r ∈ runs, 0 ≤ r.n ∧ r.n ≤ 1000000000
theorem Il.cnt_held {runs : List Em.R} (hp : ∀ r ∈ runs, 0 ≤ r.n ∧ r.n ≤ 1000000000) {r : Nat} (hr : r < runs.length) : Em.held (Em.get runs r).n ≤ Il.cnt runs r ∧ Il.cnt runs r ≤ 1000000000 := by
  rw [Em.get_at hr]
  unfold Il.cnt
  rw [Em.get_at hr]
  have := hp _ (List.getElem_mem hr)
  unfold Em.held
  omega
theorem Il.cnt_le {runs : List Em.R} (hp : ∀ r ∈ runs, 0 ≤ r.n ∧ r.n ≤ 1000000000) (r : Nat) : Il.cnt runs r ≤ 1000000000 := by
  rcases Nat.lt_or_ge r runs.length with h | h
  · exact (Il.cnt_held hp h).2
  · unfold Il.cnt Em.get
    simp [List.getD, List.getElem?_eq_none h, Em.none_]
theorem Il.used_zero {X : List (Nat × Nat × Nat)} {r : Nat} (h : ∀ x ∈ X, x.1 ≠ r ∧ x.2.1 ≠ r) : Em.used X r = 0 := by
  induction X with
  | nil => rfl
  | cons x X ih =>
    have h1 := h x (by simp)
    have h2 := ih (fun y hy => h y (by simp [hy]))
    unfold Em.used at *
    rw [List.map_cons, List.sum_cons, h2, if_neg h1.1, if_neg h1.2]
theorem Il.used_le {runs : List Em.R} (hp : ∀ r ∈ runs, 0 ≤ r.n ∧ r.n ≤ 1000000000) (r : Nat) : Em.used (Em.pairs runs) r ≤ Il.cnt runs r := by
  have hi := Em.inv_pairs runs
  rcases Nat.lt_or_ge r runs.length with h | h
  · have h1 := hi.sum r h
    have h2 := (Il.cnt_held hp h).1
    have h3 : Em.used (Em.pairs runs) r = Em.used (Em.outer runs runs.length 0 (runs.map (fun r => Em.held r.n), [])).2 r := rfl
    omega
  · have h0 : Em.used (Em.pairs runs) r = 0 := Il.used_zero fun x hx => by
      have hg := hi.good x hx
      omega
    omega
/-- the parts behind so many pairs -/
def Il.behindP (l : List Il.Pt) (X : List (Nat × Nat × Nat)) (k : Nat) : List Il.Pt := (X.take k).foldl Il.joinPair l
theorem Il.behind_next {l : List Il.Pt} {X : List (Nat × Nat × Nat)} {k : Nat} (hk : k < X.length) : Il.behindP l X (k + 1) = Il.joinPair (Il.behindP l X k) X[k] := by
  unfold Il.behindP
  rw [List.take_succ_eq_append_getElem hk, List.foldl_append]; rfl
structure Il.Holds (l : List Il.Pt) (runs : List Em.R) (X : List (Nat × Nat × Nat)) (k : Nat) : Prop where
  sorted : (Il.rns (Il.behindP l X k)).Pairwise (· < ·)
  there : ∀ j (hj : j < X.length), k ≤ j → X[j].1 ∈ Il.rns (Il.behindP l X k) ∧ X[j].2.1 ∈ Il.rns (Il.behindP l X k)
  left : Il.LeftOK (Il.cnt runs) (X.take k) (Il.behindP l X k)
  len : (Il.behindP l X k).length ≤ l.length + k
  heft : Il.heft (Il.behindP l X k) ≤ Il.heft l
theorem Il.good_pairs (runs : List Em.R) : ∀ x ∈ Em.pairs runs, x.1 < x.2.1 ∧ x.2.1 < runs.length ∧ 1 ≤ x.2.2 ∧ x.2.2 ≤ 2 := fun x hx => by
  have hg := (Em.inv_pairs runs).good x hx
  exact ⟨hg.1, hg.2.2.1, hg.2.2.2.1, hg.2.2.2.2.1⟩
theorem Il.holds_all {l : List Il.Pt} {runs : List Em.R} (h : Il.Ready l runs) : ∀ k, k ≤ (Em.pairs runs).length → Il.Holds l runs (Em.pairs runs) k := by
  have hg := Il.good_pairs runs
  have hf := Il.fold_ok (X := Em.pairs runs) (l := l) h.sorted (fun x hx => ⟨h.all _ (by have := hg x hx; omega), h.all _ (by have := hg x hx; omega), (hg x hx).1⟩) (Em.outside_pairs runs)
  intro k
  induction k with
  | zero =>
    intro hk
    refine ⟨(hf 0 hk).1, (hf 0 hk).2, ?_, by simp [Il.behindP], by simp [Il.behindP]⟩
    intro p hp r hr
    simp only [Il.behindP, List.take_zero, List.foldl_nil] at hp
    have := h.left p hp r hr
    simp [Em.used, this]
  | succ k ih =>
    intro hk
    have hk' : k < (Em.pairs runs).length := by omega
    have i := ih (by omega)
    have ht := i.there k hk' (Nat.le_refl _)
    have hx := hg _ (List.getElem_mem hk')
    have hn : ∀ r, Em.used ((Em.pairs runs).take k ++ [((Em.pairs runs)[k].1, (Em.pairs runs)[k].2.1, (Em.pairs runs)[k].2.2)]) r ≤ Il.cnt runs r := fun r => by
      rw [show ((Em.pairs runs)[k].1, (Em.pairs runs)[k].2.1, (Em.pairs runs)[k].2.2) = (Em.pairs runs)[k] from rfl, ← List.take_succ_eq_append_getElem hk']
      exact Nat.le_trans (Il.used_part _ _ _) (Il.used_le h.pos r)
    have hj := Il.heft_join (s := (Em.pairs runs)[k].2.2) i.sorted ht.1 ht.2 hx.1
    have hl := Il.left_join i.left hn i.sorted ht.1 ht.2 hx.1
    refine ⟨(hf (k + 1) hk).1, (hf (k + 1) hk).2, ?_, ?_, ?_⟩
    · rw [Il.behind_next hk', List.take_succ_eq_append_getElem hk']; exact hl
    · rw [Il.behind_next hk']; have := hj.2; have := i.len; simp only [Prod.eta] at *; omega
    · rw [Il.behind_next hk']; have := hj.1; have := i.heft; simp only [Prod.eta] at *; omega
end Go.Proofs.YtkfhkfagmokjpaaDoor

namespace Go.Proofs.YtkfhkfagmokjpaaDoor.Il
open Go.Lib

theorem pput_cases (l : List Pt) (s : List UInt8) : (∃ l' t d k n c, l = l' ++ [⟨.mk 0 t d k, none, n, c⟩] ∧ pput l s = l' ++ [⟨.mk 0 (t ++ s) d k, none, n, c⟩]) ∨ pput l s = l ++ [⟨word s, none, 0, 0⟩] := by
  rcases List.eq_nil_or_concat l with rfl | ⟨l', p, rfl⟩
  · exact .inr (pput_nil s)
  · rw [List.concat_eq_append]
    obtain ⟨⟨kd, t, d, ks⟩, r, n, c⟩ := p
    cases r with
    | some r => exact .inr (pput_run l' _ r n c s)
    | none =>
      by_cases hk : kd = 0
      · subst hk; exact .inl ⟨l', t, d, ks, n, c, rfl, pput_join l' t d s ks n c⟩
      · exact .inr (pput_kind l' hk t d ks none n c s)
theorem pput_rns (l : List Pt) (s : List UInt8) : rns (pput l s) = rns l := by
  rcases pput_cases l s with ⟨l', t, d, k, n, c, rfl, h⟩ | h
  · rw [h, rns_append, rns_append]; rfl
  · rw [h, rns_append, rns_cons]; simp [rns]
theorem pput_mem {l : List Pt} {s : List UInt8} {p : Pt} {r : Nat} (h : p ∈ pput l s) (hr : p.run = some r) : p ∈ l := by
  rcases pput_cases l s with ⟨l', t, d, k, n, c, rfl, e⟩ | e
  · rw [e] at h
    rcases List.mem_append.1 h with h | h
    · simp [h]
    · obtain rfl := List.mem_singleton.1 h; cases hr
  · rw [e] at h
    rcases List.mem_append.1 h with h | h
    · exact h
    · obtain rfl := List.mem_singleton.1 h; cases hr
theorem pput_len (l : List Pt) (s : List UInt8) : (pput l s).length ≤ l.length + 1 := by
  rcases pput_cases l s with ⟨l', t, d, k, n, c, rfl, h⟩ | h <;> rw [h] <;> simp
theorem pput_heft (l : List Pt) (s : List UInt8) : heft (pput l s) = heft l + s.length := by
  rcases pput_cases l s with ⟨l', t, d, k, n, c, rfl, h⟩ | h
  · rw [h, heft_append, heft_append, heft_cons, heft_cons]
    simp only [eff_none, tlen, List.length_append]
    have : heft ([] : List Pt) = 0 := rfl
    omega
  · rw [h, heft_append, heft_cons]
    have : heft ([] : List Pt) = 0 := rfl
    simp only [word, eff_none, tlen]
    omega

/-- what holds of what has been read up to a place -/
structure ScOK (st : Sc) (i : Nat) : Prop where
  rns : rns st.l = List.range st.runs.length
  left : ∀ p ∈ st.l, ∀ r, p.run = some r → p.left = cnt st.runs r
  pos : ∀ r ∈ st.runs, 0 ≤ r.n ∧ r.n ≤ 1000000000
  len : st.l.length ≤ i
  heft : heft st.l ≤ 4 * i
  rlen : st.runs.length ≤ i
theorem scok_start : ScOK ⟨[], []⟩ 0 := ⟨rfl, by simp, by simp, Nat.le_refl _, Nat.le_refl _, Nat.le_refl _⟩
theorem scok_put {st : Sc} {i e : Nat} (h : ScOK st i) (hi : i < e) {s : List UInt8} (hs : s.length ≤ 4 * (e - i)) : ScOK ⟨pput st.l s, st.runs⟩ e := by
  have h1 := pput_len st.l s
  have h2 := pput_heft st.l s
  have h3 := h.len
  have h4 := h.heft
  have h5 := h.rlen
  exact ⟨by rw [pput_rns]; exact h.rns, fun p hp r hr => h.left p (pput_mem hp hr) r hr, h.pos, by simp only; omega, by simp only; omega, by simp only; omega⟩
theorem scok_push {st : Sc} {i e : Nat} (h : ScOK st i) (hi : i < e) {x : In} (hx : tlen x ≤ 4 * (e - i)) : ScOK ⟨st.l ++ [⟨x, none, 0, 0⟩], st.runs⟩ e := by
  have h3 := h.len
  have h4 := h.heft
  have h5 := h.rlen
  obtain ⟨kd, t, d, ks⟩ := x
  refine ⟨by rw [rns_append, rns_cons]; simpa [Il.rns] using h.rns, fun p hp r hr => ?_, h.pos, by simp only [List.length_append, List.length_singleton]; omega, ?_, by simp only; omega⟩
  · rcases List.mem_append.1 hp with hp | hp
    · exact h.left p hp r hr
    · obtain rfl := List.mem_singleton.1 hp; cases hr
  · rw [heft_append, heft_cons]
    have : Il.heft ([] : List Pt) = 0 := rfl
    simp only [eff_none, tlen] at hx ⊢
    omega
theorem cnt_snoc (runs : List Em.R) (x : Em.R) {r : Nat} (hr : r < runs.length) : cnt (runs ++ [x]) r = cnt runs r := by
  unfold cnt
  rw [Em.get_at (by simp; omega), Em.get_at hr, List.getElem_append_left hr]
theorem scok_run {st : Sc} {i e : Nat} (h : ScOK st i) (hi : i < e) {x : Em.R} (hx : x.n = ((e - i : Nat) : Int)) (he : e ≤ 1000000000) : ScOK ⟨st.l ++ [⟨none_, some st.runs.length, x.n.toNat, x.ch⟩], st.runs ++ [x]⟩ e := by
  have h3 := h.len
  have h4 := h.heft
  have h5 := h.rlen
  have hm : ∀ p ∈ st.l, ∀ r, p.run = some r → r < st.runs.length := fun p hp r hr => by
    have : r ∈ Il.rns st.l := mem_rns.2 ⟨p, hp, hr⟩
    rw [h.rns] at this
    exact List.mem_range.1 this
  refine ⟨?_, fun p hp r hr => ?_, fun r hr => ?_, by simp only [List.length_append, List.length_singleton]; omega, ?_, by simp only [List.length_append, List.length_singleton]; omega⟩
  · simp only
    rw [rns_append, rns_one ⟨none_, some st.runs.length, x.n.toNat, x.ch⟩ [] rfl, h.rns, List.length_append, List.length_singleton, List.range_succ]
    rfl
  · rcases List.mem_append.1 hp with hp | hp
    · simp only
      rw [cnt_snoc _ _ (hm p hp r hr)]; exact h.left p hp r hr
    · obtain rfl := List.mem_singleton.1 hp
      obtain rfl : st.runs.length = r := Option.some.inj hr
      simp only
      unfold cnt
      rw [Em.get_at (by simp)]
      simp
  · rcases List.mem_append.1 hr with hr | hr
    · exact h.pos r hr
    · obtain rfl := List.mem_singleton.1 hr; omega
  · simp only
    rw [heft_append, heft_cons]
    have : Il.heft ([] : List Pt) = 0 := rfl
    have e1 : tlen (eff ⟨none_, some st.runs.length, x.n.toNat, x.ch⟩) = x.n.toNat := by simp [none_, eff_some, tlen]
    omega
theorem scok_ready {st : Sc} {i : Nat} (h : ScOK st i) : Ready st.l st.runs :=
  ⟨by rw [h.rns]; exact List.pairwise_lt_range, fun i hi => by rw [h.rns]; exact List.mem_range.2 hi, h.left, h.pos⟩
end Go.Proofs.YtkfhkfagmokjpaaDoor.Il

namespace Go.Proofs.YtkfhkfagmokjpaaDoor.Il
open Go.Lib

theorem few_bare {k : Nat} (hk : k ≤ 1000) (t d : List UInt8) : Few (.mk k t d []) := .mk hk (by simp) (by simp)
theorem few_text {k : Nat} {t d : List UInt8} {ks : List In} (h : Few (.mk k t d ks)) (t' d' : List UInt8) : Few (.mk k t' d' ks) := by
  cases h with
  | mk h1 h2 h3 => exact .mk h1 h2 h3
theorem few_eff {p : Pt} (h : Few p.inn) : Few (eff p) := by
  obtain ⟨⟨k, t, d, ks⟩, r, n, c⟩ := p
  cases r with
  | none => exact h
  | some r => exact few_text h _ _
theorem iput_cases (out : List In) (x : In) : iput out x = out ∨ (∃ o t' d' ks' t d ks, out = o ++ [.mk 0 t' d' ks'] ∧ x = .mk 0 t d ks ∧ iput out x = o ++ [.mk 0 (t' ++ t) d' ks']) ∨ iput out x = out ++ [x] := by
  obtain ⟨kd, t, d, ks⟩ := x
  by_cases hk : kd = 0
  · subst hk
    by_cases ht : t = []
    · subst ht; exact .inl (iput_empty out d ks)
    · rcases List.eq_nil_or_concat out with rfl | ⟨o, y, rfl⟩
      · exact .inr (.inr (by rw [iput_first ht]; rfl))
      · rw [List.concat_eq_append]
        obtain ⟨kd', t', d', ks'⟩ := y
        by_cases hk' : kd' = 0
        · subst hk'; exact .inr (.inl ⟨o, t', d', ks', t, d, ks, rfl, rfl, iput_join o ht t' d' d ks' ks⟩)
        · exact .inr (.inr (iput_apart o ht hk' t' d' d ks' ks))
  · exact .inr (.inr (iput_kind out hk t d ks))
theorem iput_few {out : List In} {x : In} (h : ∀ y ∈ out, Few y) (hx : Few x) : (∀ y ∈ iput out x, Few y) ∧ (iput out x).length ≤ out.length + 1 ∧ (txts (iput out x)).length ≤ (txts out).length + (txt x).length := by
  rcases iput_cases out x with e | ⟨o, t', d', ks', t, d, ks, rfl, rfl, e⟩ | e
  · rw [e]; exact ⟨h, by omega, by omega⟩
  · rw [e]
    refine ⟨fun y hy => ?_, by simp, ?_⟩
    · rcases List.mem_append.1 hy with hy | hy
      · exact h y (by simp [hy])
      · obtain rfl := List.mem_singleton.1 hy
        exact few_text (h (.mk 0 t' d' ks') (by simp)) _ _
    · rw [txts_snoc, txts_snoc]
      simp only [txt, List.length_append]
      simp
      omega
  · rw [e]
    refine ⟨fun y hy => ?_, by simp, by rw [txts_snoc, List.length_append]; omega⟩
    rcases List.mem_append.1 hy with hy | hy
    · exact h y hy
    · obtain rfl := List.mem_singleton.1 hy; exact hx
/-- what all parts say -/
def weight (l : List Pt) : Nat := (l.map fun p => (txt (eff p)).length).sum
theorem weight_append (a b : List Pt) : weight (a ++ b) = weight a + weight b := by simp [weight]
theorem weight_cons (p : Pt) (b : List Pt) : weight (p :: b) = (txt (eff p)).length + weight b := by simp [weight]
theorem fold_few : ∀ (l : List Pt) (out : List In), (∀ y ∈ out, Few y) → (∀ p ∈ l, Few p.inn) → (∀ y ∈ l.foldl (fun out p => iput out (eff p)) out, Few y) ∧ (l.foldl (fun out p => iput out (eff p)) out).length ≤ out.length + l.length ∧ (txts (l.foldl (fun out p => iput out (eff p)) out)).length ≤ (txts out).length + weight l
  | [], out, h, _ => ⟨h, by simp, by simp [weight]⟩
  | p :: l, out, h, hl => by
    obtain ⟨h1, h2, h3⟩ := iput_few h (few_eff (hl p (by simp)))
    obtain ⟨k1, k2, k3⟩ := fold_few l _ h1 (fun q hq => hl q (by simp [hq]))
    rw [List.foldl_cons, weight_cons]
    refine ⟨k1, by rw [List.length_cons]; omega, by omega⟩
theorem settle_few {l : List Pt} (h : ∀ p ∈ l, Few p.inn) : (∀ y ∈ settle l, Few y) ∧ (settle l).length ≤ l.length ∧ (txts (settle l)).length ≤ weight l := by
  have := fold_few l [] (by simp) h
  simpa [settle, txts] using this
theorem weight_less {p : Pt} {r : Nat} (h : p.run = some r) (s : Nat) : (txt (eff { p with left := p.left - s })).length ≤ (txt (eff p)).length := by
  obtain ⟨⟨kd, t, d, ks⟩, rn, n, c⟩ := p
  simp only at h
  subst h
  simp only [eff_some, txt, List.length_append, List.length_replicate]
  omega
/-- a pair makes it no more -/
theorem weight_join {l : List Pt} {a b s : Nat} (hs : (rns l).Pairwise (· < ·)) (ha : a ∈ rns l) (hb : b ∈ rns l) (hab : a < b) (hl : l.length ≤ 1000000000) (hf : ∀ p ∈ l, Few p.inn) : (∀ p ∈ joinPair l (a, b, s), Few p.inn) ∧ weight (joinPair l (a, b, s)) ≤ weight l := by
  obtain ⟨A, p, B, q, C, rfl, hp, hq, h1, h2, _, _, _⟩ := place_two hs ha hb hab
  rw [joinPair_eq h1 h2]
  obtain ⟨k1, k2, k3⟩ := settle_few (l := B) (fun x hx => hf x (by simp [hx]))
  have hBl : B.length ≤ 1000000000 := by simp only [List.length_append, List.length_cons] at hl; omega
  constructor
  · intro x hx
    simp only [List.mem_append, List.mem_cons] at hx
    rcases hx with hx | rfl | rfl | rfl | hx
    · exact hf x (by simp [hx])
    · exact hf p (by simp)
    · exact .mk (by split <;> omega) (by omega) k1
    · exact hf q (by simp)
    · exact hf x (by simp [hx])
  · have e1 := weight_less hp s
    have e2 := weight_less hq s
    have e3 : (txt (eff ⟨.mk (if s = 2 then 3 else 2) [] [] (settle B), none, 0, 0⟩)).length = (txts (settle B)).length := by
      rw [eff_none]
      have : (if s = 2 then 3 else 2) ≠ 5 := by split <;> omega
      simp [txt, this]
    rw [weight_append, weight_append, weight_cons, weight_cons, weight_cons, weight_cons, weight_append, weight_cons, e3]
    omega
theorem stress_few {l : List Pt} {runs : List Em.R} (h : Ready l runs) (hf : ∀ p ∈ l, Few p.inn) (hr : runs.length ≤ 4000000) (hl : l.length ≤ 500000000) : (∀ y ∈ stress l runs, Few y) ∧ (stress l runs).length ≤ 1000000000 ∧ (txts (stress l runs)).length ≤ weight l := by
  have hbd := Em.bd_pairs runs
  have key : ∀ k, k ≤ (Em.pairs runs).length → (∀ p ∈ behindP l (Em.pairs runs) k, Few p.inn) ∧ weight (behindP l (Em.pairs runs) k) ≤ weight l := by
    intro k
    induction k with
    | zero => intro _; exact ⟨by simpa [behindP] using hf, by simp [behindP]⟩
    | succ k ih =>
      intro hk
      have hk' : k < (Em.pairs runs).length := by omega
      have i := ih (by omega)
      have hh := holds_all h k (by omega)
      have ht := hh.there k hk' (Nat.le_refl _)
      have hg := good_pairs runs _ (List.getElem_mem hk')
      have hlen := hh.len
      have := weight_join (s := (Em.pairs runs)[k].2.2) hh.sorted ht.1 ht.2 hg.1 (by omega) i.1
      rw [behind_next hk']
      exact ⟨this.1, Nat.le_trans this.2 i.2⟩
  have e : stress l runs = settle (behindP l (Em.pairs runs) (Em.pairs runs).length) := by unfold stress behindP; rw [List.take_of_length_le (Nat.le_refl _)]
  obtain ⟨k1, k2⟩ := key _ (Nat.le_refl _)
  obtain ⟨s1, s2, s3⟩ := settle_few k1
  have hlen := (holds_all h _ (Nat.le_refl _)).len
  rw [e]
  exact ⟨s1, by omega, by omega⟩
end Go.Proofs.YtkfhkfagmokjpaaDoor.Il

namespace Go.Proofs.YtkfhkfagmokjpaaDoor.Il
open Go.Lib

/-! ### the later pair closes no earlier -/
def later (y x : Nat × Nat × Nat) : Prop := y.2.1 ≤ x.2.1
theorem later_innerF {l : List Em.R} {c : Nat} : ∀ (f : Nat) (st : Em.St), (∀ x ∈ st.2, x.2.1 ≤ c) → st.2.Pairwise later → (Em.innerF l c f st).2.Pairwise later ∧ ∀ x ∈ (Em.innerF l c f st).2, x.2.1 ≤ c
  | 0, _, h, hp => ⟨hp, h⟩
  | f + 1, st, h, hp => by
    unfold Em.innerF
    split
    · split
      · exact ⟨hp, h⟩
      · rename_i o ho
        refine later_innerF f _ (fun x hx => ?_) ?_
        · rcases List.mem_append.1 hx with hx | hx
          · exact h x hx
          · obtain rfl := List.mem_singleton.1 hx; exact Nat.le_refl _
        · rw [List.pairwise_append]
          refine ⟨hp, List.pairwise_singleton _ _, fun y hy x hx => ?_⟩
          obtain rfl := List.mem_singleton.1 hx
          exact h y hy
    · exact ⟨hp, h⟩
theorem later_outer {l : List Em.R} : ∀ (k c : Nat) (st : Em.St), (∀ x ∈ st.2, x.2.1 ≤ c) → st.2.Pairwise later → (Em.outer l k c st).2.Pairwise later
  | 0, _, _, _, hp => hp
  | k + 1, c, st, h, hp => by
    have := later_innerF (l := l) (c := c) (Em.lf st.1 c) st h hp
    exact later_outer k (c + 1) _ (fun x hx => Nat.le_succ_of_le (this.2 x hx)) this.1
theorem later_pairs (l : List Em.R) : (Em.pairs l).Pairwise later := later_outer l.length 0 _ (by simp) List.Pairwise.nil

/-! ### plains are words -/
def Wd (x : In) : Prop := ∀ t d ks, x = .mk 0 t d ks → d = [] ∧ ks = []
theorem wd_word (s : List UInt8) : Wd (word s) := by intro t d ks h; unfold word at h; injection h with _ _ h1 h2; exact ⟨h1.symm, h2.symm⟩
theorem wd_kind {k : Nat} (h : k ≠ 0) (t d : List UInt8) (ks : List In) : Wd (.mk k t d ks) := by intro t' d' ks' e; injection e with e; exact absurd e h
theorem iput_wd {out : List In} {x : In} (h : ∀ y ∈ out, Wd y) (hx : Wd x) : ∀ y ∈ iput out x, Wd y := by
  intro y hy
  rcases iput_cases out x with e | ⟨o, t', d', ks', t, d, ks, rfl, rfl, e⟩ | e
  · rw [e] at hy; exact h y hy
  · rw [e] at hy
    rcases List.mem_append.1 hy with hy | hy
    · exact h y (List.mem_append.2 (.inl hy))
    · obtain rfl := List.mem_singleton.1 hy
      obtain ⟨rfl, rfl⟩ := h (.mk 0 t' d' ks') (by simp) _ _ _ rfl
      exact wd_word _
  · rw [e] at hy
    rcases List.mem_append.1 hy with hy | hy
    · exact h y hy
    · obtain rfl := List.mem_singleton.1 hy; exact hx
/-- all of a row, one behind the other -/
def puts (o F : List In) : List In := F.foldl iput o
theorem puts_append (o a b : List In) : puts o (a ++ b) = puts (puts o a) b := List.foldl_append
theorem puts_one (o : List In) (x : In) : puts o [x] = iput o x := rfl
theorem puts_wd : ∀ {F : List In} {o : List In}, (∀ y ∈ o, Wd y) → (∀ y ∈ F, Wd y) → ∀ y ∈ puts o F, Wd y
  | [], _, h, _ => h
  | x :: F, _, h, hF => puts_wd (F := F) (iput_wd h (hF x (by simp))) (fun y hy => hF y (by simp [hy]))
theorem iput_two (P : List In) (a b : List UInt8) : iput (iput P (word a)) (word b) = iput P (word (a ++ b)) := by
  by_cases ha : a = []
  · subst ha; rw [word, iput_empty]; rfl
  · by_cases hb : b = []
    · subst hb; rw [word, word, iput_empty, List.append_nil]; rfl
    · have hab : a ++ b ≠ [] := by simp [ha]
      rcases List.eq_nil_or_concat P with rfl | ⟨o, y, rfl⟩
      · unfold word
        rw [iput_first ha, iput_first hab]
        exact iput_join [] hb a [] [] [] []
      · rw [List.concat_eq_append]
        obtain ⟨ky, t, d, ks⟩ := y
        unfold word
        by_cases hk : ky = 0
        · subst hk
          rw [iput_join o ha, iput_join o hb, iput_join o hab, List.append_assoc]
        · rw [iput_apart o ha hk, iput_apart o hab hk]
          exact iput_join _ hb a [] [] [] []
theorem puts_iput (O acc : List In) (x : In) (ha : ∀ y ∈ acc, Wd y) (hx : Wd x) : puts O (iput acc x) = iput (puts O acc) x := by
  obtain ⟨kd, t, d, ks⟩ := x
  by_cases hk : kd = 0
  · subst hk
    obtain ⟨rfl, rfl⟩ := hx t d ks rfl
    by_cases ht : t = []
    · subst ht; rw [iput_empty, iput_empty]
    · rcases List.eq_nil_or_concat acc with rfl | ⟨o, y, rfl⟩
      · rw [iput_first ht]; rfl
      · rw [List.concat_eq_append] at ha ⊢
        obtain ⟨ky, t', d', ks'⟩ := y
        by_cases hky : ky = 0
        · subst hky
          obtain ⟨rfl, rfl⟩ := ha (.mk 0 t' d' ks') (by simp) _ _ _ rfl
          rw [iput_join o ht, puts_append, puts_append, puts_one, puts_one]
          exact (iput_two _ t' t).symm
        · rw [iput_apart o ht hky, puts_append _ (o ++ [_]), puts_one]
  · rw [iput_kind _ hk, puts_append, puts_one]
/-- a row that has been put together is as good as what it is of -/
theorem puts_puts (O : List In) : ∀ (F acc : List In), (∀ y ∈ acc, Wd y) → (∀ y ∈ F, Wd y) → puts O (puts acc F) = puts (puts O acc) F
  | [], acc, _, _ => rfl
  | x :: F, acc, ha, hF => by
    have h1 := puts_puts O F (iput acc x) (iput_wd ha (hF x (by simp))) (fun y hy => hF y (by simp [hy]))
    show puts O (puts (iput acc x) F) = puts (iput (puts O acc) x) F
    rw [h1, puts_iput O acc x ha (hF x (by simp))]
theorem puts_self (O F : List In) (hF : ∀ y ∈ F, Wd y) : puts O (puts [] F) = puts O F := puts_puts O F [] (by simp) hF

/-! ### run by run -/
def opn (X : List (Nat × Nat × Nat)) (r : Nat) : Nat := X.countP fun x => x.1 == r
theorem opn_cons (x : Nat × Nat × Nat) (X : List (Nat × Nat × Nat)) (r : Nat) : opn (x :: X) r = opn X r + if x.1 = r then 1 else 0 := by
  unfold opn; rw [List.countP_cons]; simp
abbrev Sk := List (Nat × Nat × Nat) × List (List In)
def kd (s : Nat) : Nat := if s = 2 then 3 else 2
def topPut (st : List (List In)) (x : In) : List (List In) :=
  match st with
  | [] => []
  | t :: r => iput t x :: r
def shut1 (st : List (List In)) (s : Nat) : List (List In) :=
  match st with
  | k :: r => topPut r (.mk (kd s) [] [] k)
  | [] => []
def closeAll (r : Nat) : List (Nat × Nat × Nat) → List (List In) → Sk
  | [], st => ([], st)
  | x :: X, st => if x.2.1 = r then closeAll r X (shut1 st x.2.2) else (x :: X, st)
def run1 (LF : Nat → Nat) (r : Nat) (ch : UInt8) (S : Sk) : Sk :=
  ((closeAll r S.1 S.2).1, List.replicate (opn (closeAll r S.1 S.2).1 r) [] ++ topPut (closeAll r S.1 S.2).2 (word (List.replicate (LF r) ch)))
def mstep (LF : Nat → Nat) (S : Sk) (p : Pt) : Sk :=
  match p.run with
  | none => (S.1, topPut S.2 p.inn)
  | some r => run1 LF r p.ch S
def mach (LF : Nat → Nat) (S : Sk) (l : List Pt) : Sk := l.foldl (mstep LF) S
theorem mach_append (LF : Nat → Nat) (S : Sk) (a b : List Pt) : mach LF S (a ++ b) = mach LF (mach LF S a) b := List.foldl_append
theorem mach_cons (LF : Nat → Nat) (S : Sk) (p : Pt) (b : List Pt) : mach LF S (p :: b) = mach LF (mstep LF S p) b := rfl
theorem closeAll_no {r : Nat} {X : List (Nat × Nat × Nat)} {st : List (List In)} (h : ∀ x ∈ X, x.2.1 ≠ r) : closeAll r X st = (X, st) := by
  cases X with
  | nil => rfl
  | cons x X => unfold closeAll; rw [if_neg (h x (by simp))]
theorem topPut_ne {st : List (List In)} (h : st ≠ []) (x : In) : topPut st x ≠ [] := by
  cases st with
  | nil => exact absurd rfl h
  | cons t r => simp [topPut]
theorem run1_no {LF : Nat → Nat} {r : Nat} {ch : UInt8} {X : List (Nat × Nat × Nat)} {st : List (List In)} (h : ∀ x ∈ X, x.2.1 ≠ r) : run1 LF r ch (X, st) = (X, List.replicate (opn X r) [] ++ topPut st (word (List.replicate (LF r) ch))) := by
  unfold run1; rw [closeAll_no h]
/-- ahead of a pair's first run the pair changes nothing -/
theorem mach_ahead {LF : Nat → Nat} {x : Nat × Nat × Nat} {X : List (Nat × Nat × Nat)} : ∀ {A : List Pt} {st : List (List In)}, st ≠ [] → (∀ r ∈ rns A, r ≠ x.1 ∧ ∀ y ∈ x :: X, y.2.1 ≠ r) → ∃ st', st' ≠ [] ∧ mach LF (x :: X, st) A = (x :: X, st') ∧ mach LF (X, st) A = (X, st')
  | [], st, hs, _ => ⟨st, hs, rfl, rfl⟩
  | p :: A, st, hs, h => by
    rw [rns_cons] at h
    cases hp : p.run with
    | none =>
      obtain ⟨st', h1, h2, h3⟩ := mach_ahead (LF := LF) (x := x) (X := X) (A := A) (topPut_ne hs p.inn) (fun r hr => h r (by simp [hr]))
      refine ⟨st', h1, ?_, ?_⟩
      · rw [mach_cons]; unfold mstep; rw [hp]; exact h2
      · rw [mach_cons]; unfold mstep; rw [hp]; exact h3
    | some r =>
      rw [hp] at h
      have hr := h r (by simp)
      have e1 : run1 LF r p.ch (x :: X, st) = (x :: X, List.replicate (opn X r) [] ++ topPut st (word (List.replicate (LF r) p.ch))) := by
        rw [run1_no hr.2, opn_cons, if_neg (Ne.symm hr.1)]; rfl
      have e2 : run1 LF r p.ch (X, st) = (X, List.replicate (opn X r) [] ++ topPut st (word (List.replicate (LF r) p.ch))) := run1_no fun y hy => hr.2 y (by simp [hy])
      have hne : List.replicate (opn X r) ([] : List In) ++ topPut st (word (List.replicate (LF r) p.ch)) ≠ [] := by simp [topPut_ne hs]
      obtain ⟨st', h1, h2, h3⟩ := mach_ahead (LF := LF) (x := x) (X := X) (A := A) hne (fun r hr => h r (by simp [hr]))
      refine ⟨st', h1, ?_, ?_⟩
      · rw [mach_cons]; unfold mstep; rw [hp]; simp only [e1]; exact h2
      · rw [mach_cons]; unfold mstep; rw [hp]; simp only [e2]; exact h3
/-- between a pair's runs no pair begins or ends -/
theorem mach_between {LF : Nat → Nat} {X : List (Nat × Nat × Nat)} {T : List (List In)} : ∀ {B : List Pt} {t : List In}, (∀ p ∈ B, ∀ r, p.run = some r → p.left = LF r ∧ p.inn = none_) → (∀ r ∈ rns B, ∀ y ∈ X, y.1 ≠ r ∧ y.2.1 ≠ r) → mach LF (X, t :: T) B = (X, B.foldl (fun o p => iput o (eff p)) t :: T)
  | [], t, _, _ => rfl
  | p :: B, t, hl, h => by
    rw [rns_cons] at h
    have hl' : ∀ q ∈ B, ∀ r, q.run = some r → q.left = LF r ∧ q.inn = none_ := fun q hq => hl q (by simp [hq])
    cases hp : p.run with
    | none =>
      have e : eff p = p.inn := by unfold eff; rw [hp]
      rw [mach_cons, List.foldl_cons, e]
      unfold mstep; rw [hp]
      exact mach_between hl' (fun r hr => h r (by simp [hr]))
    | some r =>
      rw [hp] at h
      have hr := h r (by simp)
      obtain ⟨e1, e2⟩ := hl p (by simp) r hp
      have e : eff p = word (List.replicate (LF r) p.ch) := by unfold eff; rw [hp, e2, e1]; rfl
      have e3 : opn X r = 0 := by
        unfold opn; rw [List.countP_eq_zero]; intro y hy; simp [(hr y hy).1]
      rw [mach_cons, List.foldl_cons, e]
      unfold mstep; rw [hp]
      simp only
      rw [run1_no fun y hy => (hr y hy).2, e3]
      exact mach_between hl' (fun r hr => h r (by simp [hr]))

/-- what holds of parts and pairs to come -/
structure MOK (LF : Nat → Nat) (l : List Pt) (X : List (Nat × Nat × Nat)) : Prop where
  sorted : (rns l).Pairwise (· < ·)
  here : ∀ x ∈ X, x.1 ∈ rns l ∧ x.2.1 ∈ rns l ∧ x.1 < x.2.1
  out : X.Pairwise Em.outside
  late : X.Pairwise later
  left : ∀ p ∈ l, ∀ r, p.run = some r → p.left = LF r + Em.used X r ∧ p.inn = none_
theorem used_cons (x : Nat × Nat × Nat) (X : List (Nat × Nat × Nat)) (i : Nat) : Em.used (x :: X) i = ((if x.1 = i then x.2.2 else 0) + if x.2.1 = i then x.2.2 else 0) + Em.used X i := by simp [Em.used]
theorem used_none {X : List (Nat × Nat × Nat)} {r : Nat} (h : ∀ y ∈ X, y.1 ≠ r ∧ y.2.1 ≠ r) : Em.used X r = 0 := by
  induction X with
  | nil => rfl
  | cons x X ih => rw [used_cons, if_neg (h x (by simp)).1, if_neg (h x (by simp)).2, ih fun y hy => h y (by simp [hy])]
theorem mok_next {LF : Nat → Nat} {l : List Pt} {a b s : Nat} {X : List (Nat × Nat × Nat)} (h : MOK LF l ((a, b, s) :: X)) : MOK LF (joinPair l (a, b, s)) X ∧ ∀ st, st ≠ [] → mach LF ((a, b, s) :: X, st) l = mach LF (X, st) (joinPair l (a, b, s)) := by
  obtain ⟨ha, hb, hab⟩ := h.here (a, b, s) (by simp)
  simp only at ha hb hab
  have ho := List.pairwise_cons.1 h.out
  have hlt := List.pairwise_cons.1 h.late
  have hrj := rns_join (s := s) h.sorted ha hb hab
  have hmid : ∀ r, a < r → r < b → ∀ y ∈ X, y.1 ≠ r ∧ y.2.1 ≠ r := fun r h1 h2 y hy => by
    have := ho.1 y hy
    unfold Em.outside at this
    simp only at this
    exact ⟨fun e => this.1 (by omega), fun e => this.2 (by omega)⟩
  obtain ⟨A, p, B, q, C, rfl, hp, hq, h1, h2, h3, h4, h5⟩ := place_two h.sorted ha hb hab
  have hlate : ∀ y ∈ X, b ≤ y.2.1 := fun y hy => by have := hlt.1 y hy; unfold later at this; exact this
  constructor
  · refine ⟨hrj.1, fun x hx => ?_, ho.2, hlt.2, ?_⟩
    · have h6 := h.here x (by simp [hx])
      have h7 := ho.1 x hx
      exact ⟨hrj.2 _ h6.1 h7.1, hrj.2 _ h6.2.1 h7.2, h6.2.2⟩
    · rw [joinPair_eq h1 h2]
      have old : ∀ y ∈ A ++ p :: (B ++ q :: C), ∀ r, y.run = some r → r ≠ a → r ≠ b → y.left = LF r + Em.used X r ∧ y.inn = none_ := fun y hy r hr n1 n2 => by
        have h6 := h.left y hy r hr
        rw [used_cons, if_neg (Ne.symm n1), if_neg (Ne.symm n2), Nat.zero_add] at h6
        exact h6
      intro x hx r hr
      rcases List.mem_append.1 hx with hm | hm
      · have h6 := h3 r (mem_rns.2 ⟨x, hm, hr⟩)
        exact old x (by simp [hm]) r hr (by omega) (by omega)
      · rcases List.mem_cons.1 hm with rfl | hm
        · obtain rfl : a = r := by simp only at hr; rw [hp] at hr; exact Option.some.inj hr
          have h6 := h.left p (by simp) a hp
          rw [used_cons] at h6
          simp only at h6 ⊢
          rw [if_pos trivial, if_neg (by omega)] at h6
          exact ⟨by omega, h6.2⟩
        · rcases List.mem_cons.1 hm with rfl | hm
          · simp at hr
          · rcases List.mem_cons.1 hm with rfl | hm
            · obtain rfl : b = r := by simp only at hr; rw [hq] at hr; exact Option.some.inj hr
              have h6 := h.left q (by simp) b hq
              rw [used_cons] at h6
              simp only at h6 ⊢
              rw [if_neg (by omega), if_pos trivial] at h6
              exact ⟨by omega, h6.2⟩
            · have h6 := h5 r (mem_rns.2 ⟨x, hm, hr⟩)
              exact old x (by simp [hm]) r hr (by omega) (by omega)
  · intro st hst
    rw [joinPair_eq h1 h2, mach_append, mach_append]
    obtain ⟨s1, n1, e1, e2⟩ := mach_ahead (LF := LF) (x := (a, b, s)) (X := X) (A := A) hst (fun r hr => by
      have := h3 r hr
      refine ⟨by simp only; omega, fun y hy => ?_⟩
      rcases List.mem_cons.1 hy with rfl | hy
      · simp only; omega
      · have := hlate y hy; omega)
    rw [e1, e2, mach_cons, mach_cons, mach_cons, mach_append, mach_cons, mach_cons]
    have e3 : mstep LF ((a, b, s) :: X, s1) p = ((a, b, s) :: X, [] :: (List.replicate (opn X a) [] ++ topPut s1 (word (List.replicate (LF a) p.ch)))) := by
      unfold mstep; rw [hp]; simp only
      rw [run1_no (fun y hy => by
        rcases List.mem_cons.1 hy with rfl | hy
        · simp only; omega
        · have := hlate y hy; omega), opn_cons, if_pos rfl, List.replicate_succ]
      rfl
    have e4 : mstep LF (X, s1) { p with left := p.left - s } = (X, List.replicate (opn X a) [] ++ topPut s1 (word (List.replicate (LF a) p.ch))) := by
      unfold mstep; simp only [hp]
      rw [run1_no (fun y hy => by have := hlate y hy; omega)]
    rw [e3, e4]
    obtain ⟨T, hT⟩ : ∃ T, T = List.replicate (opn X a) ([] : List In) ++ topPut s1 (word (List.replicate (LF a) p.ch)) := ⟨_, rfl⟩
    have hTn : T ≠ [] := by rw [hT]; simp [topPut_ne n1]
    rw [← hT]
    have e5 : mach LF ((a, b, s) :: X, [] :: T) B = ((a, b, s) :: X, settle B :: T) := by
      refine mach_between (fun y hy r hr => ?_) (fun r hr y hy => ?_)
      · have h6 := h.left y (by simp [hy]) r hr
        have h7 := h4 r (mem_rns.2 ⟨y, hy, hr⟩)
        rw [used_cons] at h6
        simp only at h6
        rw [if_neg (by omega), if_neg (by omega), used_none (hmid r h7.1 h7.2)] at h6
        exact ⟨by omega, h6.2⟩
      · have h7 := h4 r hr
        rcases List.mem_cons.1 hy with rfl | hy
        · simp only; omega
        · exact hmid r h7.1 h7.2 y hy
    rw [e5]
    have e6 : mstep LF (X, T) ⟨.mk (if s = 2 then 3 else 2) [] [] (settle B), none, 0, 0⟩ = (X, topPut T (.mk (kd s) [] [] (settle B))) := rfl
    rw [e6]
    have e7 : mstep LF ((a, b, s) :: X, settle B :: T) q = mstep LF (X, topPut T (.mk (kd s) [] [] (settle B))) { q with left := q.left - s } := by
      unfold mstep; simp only [hq]
      unfold run1
      have e8 : closeAll b ((a, b, s) :: X) (settle B :: T) = closeAll b X (topPut T (.mk (kd s) [] [] (settle B))) := by
        conv => lhs; unfold closeAll
        rw [if_pos rfl]
        rfl
      simp only [e8]
    rw [e7]
/-- run by run comes to what pair by pair comes to -/
theorem mach_all {LF : Nat → Nat} : ∀ {X : List (Nat × Nat × Nat)} {l : List Pt}, MOK LF l X → mach LF (X, [[]]) l = ([], [settle (X.foldl joinPair l)])
  | [], l, h => by
    have := mach_between (LF := LF) (X := []) (T := []) (B := l) (t := []) (fun p hp r hr => by have := h.left p hp r hr; simpa [Em.used] using this) (by simp)
    exact this
  | (a, b, s) :: X, l, h => by
    have := mok_next h
    rw [this.2 [[]] (by simp), mach_all this.1]
    rfl
end Go.Proofs.YtkfhkfagmokjpaaDoor.Il

namespace Go.Proofs.YtkfhkfagmokjpaaDoor.Il
open Go.Lib

/-- a text of runes -/
def V8 (t : List UInt8) : Prop := ∃ V : List Nat, (∀ x ∈ V, Ru.vr x) ∧ t = Ru.enc V
theorem v8_nil : V8 [] := ⟨[], by simp, rfl⟩
theorem v8_append {a b : List UInt8} (ha : V8 a) (hb : V8 b) : V8 (a ++ b) := by
  obtain ⟨A, h1, rfl⟩ := ha
  obtain ⟨B, h2, rfl⟩ := hb
  exact ⟨A ++ B, fun x hx => (List.mem_append.1 hx).elim (h1 x) (h2 x), (Ru.enc_append A B).symm⟩
theorem v8_runes {t : List UInt8} (h : V8 t) : Ru.enc (Ru.runes t) = t := by
  obtain ⟨V, h1, rfl⟩ := h; rw [Ru.runes_enc h1]
theorem v8_of (t : List UInt8) : V8 (Ru.enc (Ru.runes t)) := ⟨Ru.runes t, Ru.runes_vr t, rfl⟩
theorem v8_one {r : Nat} (h : Ru.vr r) : V8 (encodeRune (r : Int)) := ⟨[r], by simpa using h, by simp [Ru.enc]⟩
theorem v8_low {b : UInt8} (h : b.toNat < 128) (n : Nat) : V8 (List.replicate n b) := by
  induction n with
  | zero => exact v8_nil
  | succ n ih =>
    rw [List.replicate_succ]
    have : V8 [b] := by
      have e : encodeRune ((b.toNat : Nat) : Int) = [b] := by
        unfold encodeRune
        rw [encodeRuneZ_one (by omega) (by omega)]
        simp
      rw [← e]; exact v8_one (by unfold Ru.vr; omega)
    exact v8_append this ih

/-- a row that grows: its inlines, the plain text at its end -/
structure Rw where
  l : List In
  p : List UInt8
def Rw.full (R : Rw) : List In := R.l ++ if R.p = [] then [] else [word R.p]
def Rw.nil : Rw := ⟨[], []⟩
structure Rw.ok (R : Rw) : Prop where
  last : ∀ o t d ks, R.l ≠ o ++ [.mk 0 t d ks]
  wd : ∀ y ∈ R.l, Wd y
  v8 : V8 R.p
  v8s : ∀ t d ks, In.mk 0 t d ks ∈ R.l → V8 t
def Rw.say (R : Rw) (s : List UInt8) : Rw := ⟨R.l, R.p ++ s⟩
def Rw.put (R : Rw) (x : In) : Rw := ⟨R.full ++ [x], []⟩
def Rw.step (R : Rw) (x : In) : Rw :=
  match x with
  | .mk 0 t _ _ => R.say t
  | x => R.put x
def Rw.join (R v : Rw) : Rw := (v.l.foldl Rw.step R).say v.p
theorem Rw.ok_nil : Rw.nil.ok := ⟨fun o t d ks h => by simp [Rw.nil] at h, by simp [Rw.nil], v8_nil, by simp [Rw.nil]⟩
theorem Rw.full_nil : Rw.nil.full = [] := rfl
theorem Rw.step_kind (R : Rw) {k : Nat} (h : k ≠ 0) (t d : List UInt8) (ks : List In) : R.step (.mk k t d ks) = R.put (.mk k t d ks) := by
  unfold Rw.step
  split
  · rename_i e; injection e with e; exact absurd e h
  · rfl
section
variable {R v : Rw}
theorem Rw.full_say (h : R.ok) (s : List UInt8) : (R.say s).full = iput R.full (word s) := by
  unfold Rw.full Rw.say
  simp only
  by_cases hs : s = []
  · subst hs
    rw [List.append_nil]
    exact (iput_empty _ [] []).symm
  · rw [if_neg (by simp [hs])]
    by_cases hp : R.p = []
    · rw [hp, if_pos rfl, List.append_nil, List.nil_append]
      rcases List.eq_nil_or_concat R.l with e | ⟨o, y, e⟩
      · rw [e]; exact (iput_first hs [] []).symm
      · rw [e, List.concat_eq_append]
        obtain ⟨ky, t, d, ks⟩ := y
        have hk : ky ≠ 0 := fun hk => by subst hk; exact h.last o t d ks (by rw [e, List.concat_eq_append])
        exact (iput_apart o hs hk t d [] ks []).symm
    · rw [if_neg hp]
      exact (iput_join R.l hs R.p [] [] [] []).symm
theorem Rw.full_put (R : Rw) {k : Nat} (hk : k ≠ 0) (t d : List UInt8) (ks : List In) : (R.put (.mk k t d ks)).full = iput R.full (.mk k t d ks) := by
  rw [iput_kind _ hk]; unfold Rw.put Rw.full; simp
theorem Rw.full_wd (h : R.ok) : ∀ y ∈ R.full, Wd y := by
  intro y hy
  unfold Rw.full at hy
  rcases List.mem_append.1 hy with hy | hy
  · exact h.wd y hy
  · split at hy
    · cases hy
    · obtain rfl := List.mem_singleton.1 hy; exact wd_word _
theorem Rw.ok_say (h : R.ok) {s : List UInt8} (hs : V8 s) : (R.say s).ok := ⟨h.last, h.wd, v8_append h.v8 hs, h.v8s⟩
theorem Rw.ok_put (h : R.ok) {k : Nat} (hk : k ≠ 0) (t d : List UInt8) (ks : List In) : (R.put (.mk k t d ks)).ok := by
  refine ⟨fun o t' d' ks' e => ?_, fun y hy => ?_, v8_nil, fun t' d' ks' hm => ?_⟩
  · have := (List.append_inj' e rfl).2
    injection this with this; injection this with this; exact hk this
  · rcases List.mem_append.1 hy with hy | hy
    · exact Rw.full_wd h y hy
    · obtain rfl := List.mem_singleton.1 hy; exact wd_kind hk _ _ _
  · rcases List.mem_append.1 hm with hm | hm
    · unfold Rw.full at hm
      rcases List.mem_append.1 hm with hm | hm
      · exact h.v8s _ _ _ hm
      · split at hm
        · cases hm
        · have := List.mem_singleton.1 hm
          unfold word at this
          injection this with _ e; rw [e]; exact h.v8
    · have := List.mem_singleton.1 hm
      injection this with e; exact absurd e.symm hk
theorem Rw.step_all (h : R.ok) (x : In) (hx : Wd x) (hv : ∀ t d ks, x = .mk 0 t d ks → V8 t) : (R.step x).ok ∧ (R.step x).full = iput R.full x := by
  obtain ⟨k, t, d, ks⟩ := x
  by_cases hk : k = 0
  · subst hk
    obtain ⟨rfl, rfl⟩ := hx t d ks rfl
    exact ⟨Rw.ok_say h (hv _ _ _ rfl), Rw.full_say h t⟩
  · rw [Rw.step_kind R hk]
    exact ⟨Rw.ok_put h hk t d ks, Rw.full_put R hk t d ks⟩
theorem Rw.steps_all : ∀ (F : List In) (R : Rw), R.ok → (∀ y ∈ F, Wd y) → (∀ t d ks, In.mk 0 t d ks ∈ F → V8 t) → (F.foldl Rw.step R).ok ∧ (F.foldl Rw.step R).full = puts R.full F
  | [], R, h, _, _ => ⟨h, rfl⟩
  | x :: F, R, h, hw, hv => by
    obtain ⟨h1, h2⟩ := Rw.step_all h x (hw x (by simp)) (fun t d ks e => hv t d ks (by simp [e]))
    obtain ⟨h3, h4⟩ := Rw.steps_all F (R.step x) h1 (fun y hy => hw y (by simp [hy])) (fun t d ks hm => hv t d ks (by simp [hm]))
    exact ⟨h3, by rw [List.foldl_cons, h4, h2]; rfl⟩
theorem Rw.join_all (h : R.ok) (hv : v.ok) : (R.join v).ok ∧ (R.join v).full = puts R.full v.full := by
  obtain ⟨h1, h2⟩ := Rw.steps_all v.l R h hv.wd hv.v8s
  refine ⟨Rw.ok_say h1 hv.v8, ?_⟩
  unfold Rw.join
  rw [Rw.full_say h1, h2]
  obtain ⟨O, hO⟩ : ∃ O, O = R.full := ⟨_, rfl⟩
  rw [← hO]
  unfold Rw.full
  rw [puts_append]
  by_cases e : v.p = []
  · rw [if_pos e, e]
    exact iput_empty _ [] []
  · rw [if_neg e]; rfl
end
/-! ### how much -/
def Rw.wt (R : Rw) : Nat := R.l.length + R.p.length + otlen R.l
theorem otlen_append (a b : List In) : otlen (a ++ b) = otlen a + otlen b := by simp [otlen]
theorem Rw.wt_say (R : Rw) (s : List UInt8) : (R.say s).wt = R.wt + s.length := by
  unfold Rw.wt Rw.say; simp only [List.length_append]; omega
theorem Rw.wt_full (R : Rw) : R.full.length ≤ R.l.length + 1 ∧ otlen R.full = otlen R.l + R.p.length := by
  unfold Rw.full
  split
  · rename_i e; rw [e]; simp
  · rw [otlen_append]; simp [otlen, word, tlen]
theorem Rw.wt_put (R : Rw) (x : In) : (R.put x).wt ≤ R.wt + 2 + tlen x := by
  have := R.wt_full
  unfold Rw.wt Rw.put
  simp only [List.length_append, List.length_singleton, List.length_nil]
  rw [otlen_append]
  have e : otlen [x] = tlen x := by simp [otlen]
  omega
theorem Rw.wt_step (R : Rw) (x : In) : (R.step x).wt ≤ R.wt + 2 + tlen x := by
  obtain ⟨k, t, d, ks⟩ := x
  by_cases hk : k = 0
  · subst hk; show (R.say t).wt ≤ _; rw [Rw.wt_say]; simp only [tlen]; omega
  · rw [Rw.step_kind R hk]; exact Rw.wt_put R _
theorem Rw.wt_steps : ∀ (F : List In) (R : Rw), (F.foldl Rw.step R).wt ≤ R.wt + 2 * F.length + otlen F
  | [], R => by simp [otlen]
  | x :: F, R => by
    have h1 := Rw.wt_steps F (R.step x)
    have h2 := Rw.wt_step R x
    have h3 : otlen (x :: F) = tlen x + otlen F := by simp [otlen]
    rw [List.foldl_cons, List.length_cons]; omega
theorem Rw.wt_join (R v : Rw) : (R.join v).wt ≤ R.wt + 2 * v.wt := by
  unfold Rw.join
  rw [Rw.wt_say]
  have := Rw.wt_steps v.l R
  unfold Rw.wt at this ⊢
  omega
def wts (rs : List Rw) : Nat := (rs.map Rw.wt).sum
theorem wts_append (a b : List Rw) : wts (a ++ b) = wts a + wts b := by simp [wts]
theorem wts_cons (R : Rw) (b : List Rw) : wts (R :: b) = R.wt + wts b := by simp [wts]
theorem wts_mem : ∀ {rs : List Rw} {R : Rw}, R ∈ rs → R.wt ≤ wts rs
  | x :: rs, R, h => by
    rw [wts_cons]
    rcases List.mem_cons.1 h with rfl | h
    · omega
    · have := wts_mem h; omega

/-! ### the last one of a list -/
def lastI {α : Type} (f : α → α) : List α → List α
  | [] => []
  | [x] => [f x]
  | x :: y :: r => x :: lastI f (y :: r)
theorem lastI_snoc {α : Type} (f : α → α) : ∀ (l : List α) (x : α), lastI f (l ++ [x]) = l ++ [f x]
  | [], x => rfl
  | [y], x => rfl
  | y :: z :: l, x => by
    have := lastI_snoc f (z :: l) x
    show y :: lastI f ((z :: l) ++ [x]) = _
    rw [this]; rfl
theorem lastI_ne {α : Type} {f : α → α} {l : List α} (h : l ≠ []) : lastI f l ≠ [] := by
  rcases List.eq_nil_or_concat l with e | ⟨o, y, e⟩
  · exact absurd e h
  · rw [e, List.concat_eq_append, lastI_snoc]; simp
theorem lastI_len {α : Type} (f : α → α) (l : List α) : (lastI f l).length = l.length := by
  rcases List.eq_nil_or_concat l with e | ⟨o, y, e⟩
  · rw [e]; rfl
  · rw [e, List.concat_eq_append, lastI_snoc]; simp
theorem lastI_set {α : Type} (f : α → α) {l : List α} {k : Nat} (hk : k + 1 = l.length) (h : k < l.length) : lastI f l = l.set k (f l[k]) := by
  rcases List.eq_nil_or_concat l with e | ⟨o, y, e⟩
  · subst e; simp at h
  · rw [List.concat_eq_append] at e
    subst e
    have : k = o.length := by simpa using hk
    subst this
    rw [lastI_snoc]
    simp
theorem lastI_map {α β : Type} {f : α → α} {f' : β → β} {g : α → β} {l : List α} (h : ∀ x ∈ l, g (f x) = f' (g x)) : (lastI f l).map g = lastI f' (l.map g) := by
  rcases List.eq_nil_or_concat l with e | ⟨o, y, e⟩
  · rw [e]; rfl
  · rw [e, List.concat_eq_append] at h ⊢
    rw [lastI_snoc, List.map_append, List.map_append, List.map_singleton, List.map_singleton, lastI_snoc, h y (by simp)]
theorem lastI_mem {α : Type} {f : α → α} {P : α → Prop} {l : List α} (h : ∀ x ∈ l, P x) (hf : ∀ x, P x → P (f x)) : ∀ x ∈ lastI f l, P x := by
  rcases List.eq_nil_or_concat l with e | ⟨o, y, e⟩
  · rw [e]; intro x hx; cases hx
  · rw [e, List.concat_eq_append] at h ⊢
    rw [lastI_snoc]
    intro x hx
    rcases List.mem_append.1 hx with hx | hx
    · exact h x (by simp [hx])
    · obtain rfl := List.mem_singleton.1 hx; exact hf y (h y (by simp))
theorem lastI_lastI {α : Type} (f g : α → α) (l : List α) : lastI f (lastI g l) = lastI (fun x => f (g x)) l := by
  rcases List.eq_nil_or_concat l with e | ⟨o, y, e⟩
  · rw [e]; rfl
  · rw [e, List.concat_eq_append, lastI_snoc, lastI_snoc, lastI_snoc]
theorem wts_lastI {f : Rw → Rw} {k : Nat} (hf : ∀ R, (f R).wt ≤ R.wt + k) (rs : List Rw) : wts (lastI f rs) ≤ wts rs + k := by
  rcases List.eq_nil_or_concat rs with e | ⟨o, y, e⟩
  · rw [e]; simp [lastI, wts]
  · rw [e, List.concat_eq_append, lastI_snoc, wts_append, wts_append, wts_cons, wts_cons]
    have := hf y
    have : wts [] = 0 := rfl
    omega

/-! ### parts as rows, with runs between -/
def rowsL : List Pt → List (List In)
  | [] => [[]]
  | p :: l =>
    match p.run with
    | none => (match rowsL l with | F :: Fs => (p.inn :: F) :: Fs | [] => [[p.inn]])
    | some _ => [] :: rowsL l
theorem rowsL_ne : ∀ l, rowsL l ≠ []
  | [] => by simp [rowsL]
  | p :: l => by
    unfold rowsL
    cases p.run with
    | some r => simp
    | none =>
      simp only
      split <;> simp
theorem rowsL_put : ∀ (l : List Pt) (x : In) (n : Nat) (c : UInt8), rowsL (l ++ [⟨x, none, n, c⟩]) = lastI (fun F => F ++ [x]) (rowsL l)
  | [], x, n, c => rfl
  | p :: l, x, n, c => by
    have ih := rowsL_put l x n c
    rw [List.cons_append]
    unfold rowsL
    rw [ih]
    have hne := rowsL_ne l
    cases p.run with
    | some r =>
      simp only
      cases hl : rowsL l with
      | nil => exact absurd hl hne
      | cons F Fs => rfl
    | none =>
      simp only
      cases hl : rowsL l with
      | nil => exact absurd hl hne
      | cons F Fs =>
        cases Fs with
        | nil => rfl
        | cons G Gs => rfl
theorem rowsL_run : ∀ (l : List Pt) (x : In) (r n : Nat) (c : UInt8), rowsL (l ++ [⟨x, some r, n, c⟩]) = rowsL l ++ [[]]
  | [], x, r, n, c => rfl
  | p :: l, x, r, n, c => by
    have ih := rowsL_run l x r n c
    rw [List.cons_append]
    unfold rowsL
    rw [ih]
    have hne := rowsL_ne l
    cases p.run with
    | some r => rfl
    | none =>
      simp only
      cases hl : rowsL l with
      | nil => exact absurd hl hne
      | cons F Fs => rfl
def rowsM (l : List Pt) : List (List In) := (rowsL l).map (puts [])
theorem rowsM_put (l : List Pt) (x : In) (n : Nat) (c : UInt8) : rowsM (l ++ [⟨x, none, n, c⟩]) = lastI (fun F => iput F x) (rowsM l) := by
  unfold rowsM
  rw [rowsL_put]
  exact lastI_map fun F _ => by rw [puts_append, puts_one]
theorem rowsM_run (l : List Pt) (x : In) (r n : Nat) (c : UInt8) : rowsM (l ++ [⟨x, some r, n, c⟩]) = rowsM l ++ [[]] := by
  unfold rowsM
  rw [rowsL_run, List.map_append]; rfl
theorem rowsM_pput {l : List Pt} (hw : ∀ p ∈ l, Wd p.inn) (s : List UInt8) : rowsM (pput l s) = lastI (fun F => iput F (word s)) (rowsM l) := by
  rcases pput_cases l s with ⟨l', t, d, k, n, c, rfl, h⟩ | h
  · obtain ⟨rfl, rfl⟩ := hw ⟨.mk 0 t d k, none, n, c⟩ (by simp) t d k rfl
    rw [h, rowsM_put, rowsM_put, lastI_lastI]
    congr 1
    funext F
    exact (iput_two F t s).symm
  · rw [h, rowsM_put]

/-- rows as the program has them, beside what has been read -/
structure Rel (rs : List Rw) (st : Sc) : Prop where
  rows : rs.map Rw.full = rowsM st.l
  ok : ∀ R ∈ rs, R.ok
  wd : ∀ p ∈ st.l, Wd p.inn
  runs : ∀ p ∈ st.l, ∀ r, p.run = some r → p.inn = none_ ∧ p.ch = (Em.get st.runs r).ch
  len : rs.length = st.runs.length + 1
theorem rel_start : Rel [Rw.nil] ⟨[], []⟩ := ⟨rfl, by intro R hR; obtain rfl := List.mem_singleton.1 hR; exact Rw.ok_nil, by simp, by simp, rfl⟩
theorem rel_say {rs : List Rw} {st : Sc} (h : Rel rs st) {s : List UInt8} (hs : V8 s) : Rel (lastI (fun R => R.say s) rs) ⟨pput st.l s, st.runs⟩ := by
  refine ⟨?_, lastI_mem h.ok fun R hR => Rw.ok_say hR hs, ?_, fun p hp r hr => h.runs p (pput_mem hp hr) r hr, by rw [lastI_len]; exact h.len⟩
  · rw [rowsM_pput h.wd, ← h.rows]
    exact lastI_map fun R hR => Rw.full_say (h.ok R hR) s
  · intro p hp
    rcases pput_cases st.l s with ⟨l', t, d, k, n, c, e, e2⟩ | e
    · simp only at hp
      rw [e2] at hp
      rcases List.mem_append.1 hp with hp | hp
      · exact h.wd p (by rw [e]; simp [hp])
      · obtain rfl := List.mem_singleton.1 hp
        obtain ⟨rfl, rfl⟩ := h.wd ⟨.mk 0 t d k, none, n, c⟩ (by rw [e]; simp) t d k rfl
        exact wd_word _
    · simp only at hp
      rw [e] at hp
      rcases List.mem_append.1 hp with hp | hp
      · exact h.wd p hp
      · obtain rfl := List.mem_singleton.1 hp; exact wd_word _
theorem rel_put {rs : List Rw} {st : Sc} (h : Rel rs st) {k : Nat} (hk : k ≠ 0) (t d : List UInt8) (ks : List In) : Rel (lastI (fun R => R.put (.mk k t d ks)) rs) ⟨st.l ++ [⟨.mk k t d ks, none, 0, 0⟩], st.runs⟩ := by
  refine ⟨?_, lastI_mem h.ok fun R hR => Rw.ok_put hR hk t d ks, ?_, fun p hp r hr => ?_, by rw [lastI_len]; exact h.len⟩
  · rw [rowsM_put, ← h.rows]
    exact lastI_map fun R _ => Rw.full_put R hk t d ks
  · intro p hp
    rcases List.mem_append.1 hp with hp | hp
    · exact h.wd p hp
    · obtain rfl := List.mem_singleton.1 hp; exact wd_kind hk _ _ _
  · rcases List.mem_append.1 hp with hp | hp
    · exact h.runs p hp r hr
    · obtain rfl := List.mem_singleton.1 hp; cases hr
theorem rel_run {rs : List Rw} {st : Sc} (h : Rel rs st) (hr : rns st.l = List.range st.runs.length) (x : Em.R) : Rel (rs ++ [Rw.nil]) ⟨st.l ++ [⟨none_, some st.runs.length, x.n.toNat, x.ch⟩], st.runs ++ [x]⟩ := by
  refine ⟨?_, ?_, ?_, ?_, by simp [h.len]⟩
  · rw [rowsM_run, ← h.rows, List.map_append]; rfl
  · intro R hR
    rcases List.mem_append.1 hR with hR | hR
    · exact h.ok R hR
    · obtain rfl := List.mem_singleton.1 hR; exact Rw.ok_nil
  · intro p hp
    rcases List.mem_append.1 hp with hp | hp
    · exact h.wd p hp
    · obtain rfl := List.mem_singleton.1 hp
      intro t d ks e; unfold none_ at e; injection e with _ _ e1 e2; exact ⟨e1.symm, e2.symm⟩
  · intro p hp r hpr
    rcases List.mem_append.1 hp with hp | hp
    · have h1 := h.runs p hp r hpr
      have hm : r < st.runs.length := by
        have : r ∈ rns st.l := mem_rns.2 ⟨p, hp, hpr⟩
        rw [hr] at this; exact List.mem_range.1 this
      refine ⟨h1.1, ?_⟩
      rw [h1.2, Em.get_at hm, Em.get_at (by simp; omega), List.getElem_append_left hm]
    · obtain rfl := List.mem_singleton.1 hp
      obtain rfl : st.runs.length = r := Option.some.inj hpr
      refine ⟨rfl, ?_⟩
      rw [Em.get_at (by simp)]
      simp

/-! ### rows laid into one another, run by run -/
def topPuts (st : List (List In)) (F : List In) : List (List In) :=
  match st with
  | [] => []
  | t :: r => puts t F :: r
def mrows (LF : Nat → Nat) (ch : Nat → UInt8) : Nat → List (List In) → Sk → Sk
  | _, [], S => S
  | i, F :: Fs, S => mrows LF ch (i + 1) Fs ((run1 LF i (ch i) S).1, topPuts (run1 LF i (ch i) S).2 F)
theorem mach_rows {LF : Nat → Nat} {ch : Nat → UInt8} : ∀ (l : List Pt) (i n : Nat) (S : Sk), rns l = List.range' i n → (∀ p ∈ l, ∀ r, p.run = some r → p.ch = ch r) →
    ∃ F Fs, rowsL l = F :: Fs ∧ mach LF S l = mrows LF ch i Fs (S.1, topPuts S.2 F)
  | [], i, n, S, _, _ => ⟨[], [], rfl, by
      have : topPuts S.2 [] = S.2 := by unfold topPuts; cases S.2 <;> rfl
      rw [this]; rfl⟩
  | p :: l, i, n, S, h, hc => by
    have hc' : ∀ q ∈ l, ∀ r, q.run = some r → q.ch = ch r := fun q hq => hc q (by simp [hq])
    rw [rns_cons] at h
    cases hp : p.run with
    | none =>
      rw [hp] at h
      obtain ⟨F, Fs, h1, h2⟩ := mach_rows l i n (S.1, topPut S.2 p.inn) h hc'
      refine ⟨p.inn :: F, Fs, by unfold rowsL; rw [hp, h1], ?_⟩
      rw [mach_cons]
      have e : mstep LF S p = (S.1, topPut S.2 p.inn) := by unfold mstep; rw [hp]
      rw [e, h2]
      congr 2
      unfold topPut topPuts
      cases S.2 <;> rfl
    | some r =>
      rw [hp] at h
      cases n with
      | zero => simp at h
      | succ n =>
        rw [List.range'_succ] at h
        injection h with hr h
        subst hr
        have e : mstep LF S p = run1 LF r (ch r) S := by unfold mstep; rw [hp, hc p (by simp) r hp]
        obtain ⟨F, Fs, h1, h2⟩ := mach_rows l (r + 1) n (run1 LF r (ch r) S) (by simpa using h) hc'
        refine ⟨[], F :: Fs, by unfold rowsL; rw [hp, h1], ?_⟩
        rw [mach_cons, e, h2]
        have : topPuts S.2 [] = S.2 := by unfold topPuts; cases S.2 <;> rfl
        rw [this]
        rfl
theorem rowsL_wd {l : List Pt} (hw : ∀ p ∈ l, Wd p.inn) : ∀ F ∈ rowsL l, ∀ y ∈ F, Wd y := by
  induction l with
  | nil => intro F hF; simp [rowsL] at hF; subst hF; simp
  | cons p l ih =>
    have ih' := ih fun q hq => hw q (by simp [hq])
    unfold rowsL
    cases p.run with
    | some r =>
      intro F hF
      rcases List.mem_cons.1 hF with rfl | hF
      · simp
      · exact ih' F hF
    | none =>
      simp only
      cases hl : rowsL l with
      | nil => exact absurd hl (rowsL_ne l)
      | cons G Gs =>
        rw [hl] at ih'
        intro F hF y hy
        rcases List.mem_cons.1 hF with rfl | hF
        · rcases List.mem_cons.1 hy with rfl | hy
          · exact hw p (by simp)
          · exact ih' G (by simp) y hy
        · exact ih' F (by simp [hF]) y hy
theorem mrows_self {LF : Nat → Nat} {ch : Nat → UInt8} : ∀ (Fs : List (List In)) (i : Nat) (S : Sk), (∀ F ∈ Fs, ∀ y ∈ F, Wd y) → mrows LF ch i (Fs.map (puts [])) S = mrows LF ch i Fs S
  | [], _, _, _ => rfl
  | F :: Fs, i, S, h => by
    rw [List.map_cons]
    unfold mrows
    rw [mrows_self Fs (i + 1) _ fun G hG => h G (by simp [hG])]
    congr 2
    unfold topPuts
    cases (run1 LF i (ch i) S).2 with
    | nil => rfl
    | cons t r => simp only; rw [puts_self t F (h F (by simp))]
/-- how many signs of a run are left in the end -/
def lfin (runs : List Em.R) (r : Nat) : Nat := cnt runs r - Em.used (Em.pairs runs) r
/-- what the program makes of its rows is what the document says -/
theorem fold_rows {rs : List Rw} {st : Sc} {i : Nat} (h : Rel rs st) (hs : ScOK st i) :
    ∃ R Rs, rs = R :: Rs ∧ mrows (lfin st.runs) (fun r => (Em.get st.runs r).ch) 0 (Rs.map Rw.full) (Em.pairs st.runs, [R.full]) = ([], [stress st.l st.runs]) := by
  have hinv := Em.inv_pairs st.runs
  have hrd := scok_ready hs
  have hM : MOK (lfin st.runs) st.l (Em.pairs st.runs) := by
    refine ⟨hrd.sorted, fun x hx => ?_, Em.outside_pairs _, later_pairs _, fun p hp r hr => ?_⟩
    · have := hinv.good x hx
      exact ⟨hrd.all _ (by omega), hrd.all _ this.2.2.1, this.1⟩
    · refine ⟨?_, (h.runs p hp r hr).1⟩
      rw [hrd.left p hp r hr]
      have hm : r < st.runs.length := by
        have : r ∈ rns st.l := mem_rns.2 ⟨p, hp, hr⟩
        rw [hs.rns] at this; exact List.mem_range.1 this
      have h1 := hinv.sum r hm
      have h2 := (cnt_held hrd.pos hm).1
      have h3 : Em.used (Em.pairs st.runs) r ≤ cnt st.runs r := by unfold Em.pairs at *; omega
      unfold lfin; omega
  have hm := mach_all hM
  obtain ⟨F, Fs, h1, h2⟩ := mach_rows (LF := lfin st.runs) (ch := fun r => (Em.get st.runs r).ch) st.l 0 st.runs.length (Em.pairs st.runs, [[]]) (by rw [hs.rns, List.range_eq_range']) (fun p hp r hr => (h.runs p hp r hr).2)
  have hw := rowsL_wd h.wd
  rw [h1] at hw
  have hr := h.rows
  unfold rowsM at hr
  rw [h1, List.map_cons] at hr
  cases rs with
  | nil => simp at hr
  | cons R Rs =>
    rw [List.map_cons] at hr
    injection hr with e1 e2
    refine ⟨R, Rs, rfl, ?_⟩
    rw [e2, mrows_self Fs 0 _ fun G hG => hw G (by simp [hG]), e1]
    rw [h2] at hm
    exact hm
end Go.Proofs.YtkfhkfagmokjpaaDoor.Il

namespace Go.Proofs.YtkfhkfagmokjpaaDoor
open Go.RowKit Go.Maps

inductive Pa
  | blk (g : Nat) (cs : Array Value) (t : TypeId)
  | row (e : TypeId) (size : Nat) (v : Value) (n : Nat) (xs : List Value)
  | map (g n : Nat) (D : DataW Unit)
def ilMapAt (w : World) (g n : Nat) (D : DataW Unit) : Prop := w.ownsMap Tryd.prog 3 (plainElem Tryd.prog 3) g n D
def Pa.holds (w : World) (B : Nat) : Pa → Prop
  | .blk g cs t => B ≤ g ∧ w.heap[g]? = some (.cells cs t (0, 0))
  | .row e size v n xs => w.ownsRow B e size v n xs
  | .map g n D => B ≤ g ∧ ilMapAt w g n D
def Pa.block : Pa → Option Nat
  | .blk g _ _ => some g
  | .row _ _ v _ _ => v.ownBlock
  | .map g _ _ => some g
structure Hq {K : Type} (w : World) (B : Nat) (m : K → Option Pa) : Prop where
  holds : ∀ k a, m k = some a → a.holds w B
  apart : ∀ k k' a a' g, m k = some a → m k' = some a' → a.block = some g → a'.block = some g → k = k'
theorem Pa.lt {w : World} {B : Nat} {a : Pa} (h : a.holds w B) {g : Nat} (hg : a.block = some g) : B ≤ g ∧ g < w.heap.size := by
  cases a with
  | blk g' cs t =>
    simp only [Pa.block, Option.some.injEq] at hg
    subst hg
    exact ⟨h.1, (Array.getElem?_eq_some_iff.1 h.2).1⟩
  | row e size v n xs => exact World.ownsRow.lt (show w.ownsRow B e size v n xs from h) g hg
  | map g' n D =>
    simp only [Pa.block, Option.some.injEq] at hg
    subst hg
    exact ⟨h.1, World.ownsMap.lt h.2⟩
theorem Pa.kept {w w' : World} {B : Nat} {a : Pa} (h : a.holds w B) {row : Option Nat} (hg : w.grownBy w' row) (hne : a.block = none ∨ a.block ≠ row) : a.holds w' B := by
  cases a with
  | blk g cs t =>
    refine ⟨h.1, ?_⟩
    rw [hg.block g (Array.getElem?_eq_some_iff.1 h.2).1 (by rcases hne with h | h; · cases h
                                                            · exact h)]
    exact h.2
  | row e size v n xs => exact World.ownsRow.kept (show w.ownsRow B e size v n xs from h) hg hne
  | map g n D => exact ⟨h.1, World.ownsMap.kept h.2 hg (by rcases hne with h | h; · cases h
                                                           · exact h)⟩
/-- blocks of the call's own that are no part -/
def Fr {K : Type} (w : World) (B : Nat) (m : K → Option Pa) : Nat → Prop := fun b => B ≤ b ∧ b < w.heap.size ∧ ∀ k a, m k = some a → a.block ≠ some b
/-- parts turn into parts; what is none is let alone -/
structure Turn {K K' : Type} (B : Nat) (m : K → Option Pa) (w : World) (m' : K' → Option Pa) (w' : World) : Prop where
  hp : Hq w' B m'
  bel : Below B w w'
  fre : ∀ b, Fr w B m b → w'.heap[b]? = w.heap[b]? ∧ Fr w' B m' b
section
variable {K K' K'' : Type} {w w' w'' : World} {B : Nat} {m : K → Option Pa} {m' : K' → Option Pa} {m'' : K'' → Option Pa}
theorem Turn.trans (h : Turn B m w m' w') (k : Turn B m' w' m'' w'') : Turn B m w m'' w'' :=
  ⟨k.hp, h.bel.trans k.bel, fun b hb => by
    obtain ⟨h1, h2⟩ := h.fre b hb
    obtain ⟨h3, h4⟩ := k.fre b h2
    exact ⟨h3.trans h1, h4⟩⟩
theorem Hq.refl (h : Hq w B m) : Turn B m w m w := ⟨h, Below.refl _ _, fun _ hb => ⟨rfl, hb⟩⟩
theorem Turn.kids (h : Turn B m w m' w') {ts : List Il.In} {css : List (List Value)} (k : ICs w (Fr w B m) ts css) : ICs w' (Fr w' B m') ts css :=
  ICs_frame (fun b hb => (h.fre b hb).1) (fun b hb => (h.fre b hb).2) k
theorem Turn.kid (h : Turn B m w m' w') {t : Il.In} {cs : List Value} (k : IC w (Fr w B m) t cs) : IC w' (Fr w' B m') t cs :=
  IC_frame (fun b hb => (h.fre b hb).1) (fun b hb => (h.fre b hb).2) k
theorem Turn.rowI (h : Turn B m w m' w') {size n : Nat} {A : Option Addr} {xs : List Value} (k : RowI w (Fr w B m) size A n xs) : RowI w' (Fr w' B m') size A n xs :=
  k.frame (fun b hb => (h.fre b hb).1) (fun b hb => (h.fre b hb).2)
/-- a call that makes memory of its own -/
theorem Hq.call (h : Hq w B m) (hB : B ≤ w.heap.size) (hb : Below w.heap.size w w') : Turn B m w m w' :=
  ⟨⟨fun k a ha => Pa.kept (h.holds k a ha) (grown_ext hb (some w.heap.size)) (by
      cases hbo : a.block with
      | none => exact .inl rfl
      | some g => exact .inr fun e => by have := (Pa.lt (h.holds k a ha) hbo).2; injection e with e; omega), h.apart⟩,
    hb.mono hB, fun b hb' => ⟨hb.block b hb'.2.1, hb'.1, Nat.lt_of_lt_of_le hb'.2.1 hb.size, hb'.2.2⟩⟩
theorem Hq.new (h : Hq w B m) (hB : B ≤ w.heap.size) {b : Nat} (hb : w.heap.size ≤ b) (hb2 : b < w'.heap.size) : Fr w' B m b :=
  ⟨by omega, hb2, fun k a ha e => by have := (Pa.lt (h.holds k a ha) e).2; omega⟩
/-- parts under other keys, fewer of them, and some that have no block -/
theorem Hq.tsub (h : Hq w B m) (f : K' → K) (h1 : ∀ k a, m' k = some a → m (f k) = some a ∨ (a.block = none ∧ a.holds w B)) (h2 : ∀ k k' a a', m' k = some a → m' k' = some a' → a.block ≠ none → f k = f k' → k = k') : Turn B m w m' w := by
  refine ⟨⟨fun k a ha => ?_, fun k k' a a' g hk hk' hg hg' => ?_⟩, Below.refl _ _, fun b hb => ⟨rfl, hb.1, hb.2.1, fun k a ha => ?_⟩⟩
  · rcases h1 k a ha with e | e
    · exact h.holds _ _ e
    · exact e.2
  · rcases h1 k a hk with e | e
    · rcases h1 k' a' hk' with e' | e'
      · exact h2 k k' a a' hk hk' (by rw [hg]; simp) (h.apart _ _ _ _ g e e' hg hg')
      · rw [e'.1] at hg'; cases hg'
    · rw [e.1] at hg; cases hg
  · rcases h1 k a ha with e | e
    · exact hb.2.2 _ _ e
    · rw [e.1]; simp
end
section
variable {K : Type} [DecidableEq K] {w w' : World} {B : Nat} {m : K → Option Pa}
def uq (m : K → Option Pa) (k : K) (a : Pa) : K → Option Pa := fun j => if j = k then some a else m j
theorem uq_same (m : K → Option Pa) (k : K) (a : Pa) : uq m k a k = some a := if_pos rfl
theorem uq_other (m : K → Option Pa) {k j : K} (a : Pa) (h : j ≠ k) : uq m k a j = m j := if_neg h
theorem uq_uq (m : K → Option Pa) (k : K) (a b : Pa) : uq (uq m k a) k b = uq m k b := by
  funext j; unfold uq; split <;> rfl
theorem uq_self {m : K → Option Pa} {k : K} {a : Pa} (h : m k = some a) : uq m k a = m := by
  funext j; unfold uq; split
  · rename_i e; rw [e, h]
  · rfl
theorem uq_comm (m : K → Option Pa) {k l : K} (h : k ≠ l) (a b : Pa) : uq (uq m k a) l b = uq (uq m l b) k a := by
  funext j; unfold uq
  by_cases h1 : j = l
  · subst h1; rw [if_pos rfl, if_neg (Ne.symm h), if_pos rfl]
  · rw [if_neg h1, if_neg h1]
/-- one part is another one: it lies where it lay, or in a new block -/
theorem Hq.tput (h : Hq w B m) {k : K} {a : Pa} (a' : Pa) (hk : m k = some a) (hg : w.grownBy w' a.block) (ha : a'.holds w' B)
    (hat : ∀ g, a'.block = some g → a.block = some g ∨ w.heap.size ≤ g) (hB : B ≤ w.heap.size) : Turn B m w (uq m k a') w' := by
  have hblk : ∀ b, b < B → w'.heap[b]? = w.heap[b]? := fun b hb => hg.block b (by omega) (fun e => by
    have := (Pa.lt (h.holds k a hk) e.symm).1; omega)
  refine ⟨⟨fun j b hb => ?_, fun i j b c g hi hj hbi hbj => ?_⟩, ⟨hg.os, hg.tape, hg.output, hg.size, hblk⟩, fun b hb => ⟨hg.block b hb.2.1 (fun e => hb.2.2 k a hk e.symm), hb.1, Nat.lt_of_lt_of_le hb.2.1 hg.size, fun j c hc => ?_⟩⟩
  · by_cases hjk : j = k
    · subst hjk; rw [uq_same] at hb; cases hb; exact ha
    · rw [uq_other _ _ hjk] at hb
      refine Pa.kept (h.holds j b hb) hg ?_
      cases hbo : b.block with
      | none => exact .inl rfl
      | some g => exact .inr fun he => hjk (h.apart j k b a g hb hk hbo he.symm)
  · by_cases hik : i = k
    · by_cases hjk : j = k
      · rw [hik, hjk]
      · subst hik
        rw [uq_same] at hi; cases hi
        rw [uq_other _ _ hjk] at hj
        rcases hat g hbi with h1 | h1
        · exact h.apart i j a c g hk hj h1 hbj
        · exact absurd (Pa.lt (h.holds j c hj) hbj).2 (by omega)
    · by_cases hjk : j = k
      · subst hjk
        rw [uq_same] at hj; cases hj
        rw [uq_other _ _ hik] at hi
        rcases hat g hbj with h1 | h1
        · exact h.apart i j b a g hi hk hbi h1
        · exact absurd (Pa.lt (h.holds i b hi) hbi).2 (by omega)
      · rw [uq_other _ _ hik] at hi; rw [uq_other _ _ hjk] at hj
        exact h.apart i j b c g hi hj hbi hbj
  · by_cases hjk : j = k
    · subst hjk; rw [uq_same] at hc; cases hc
      intro e
      rcases hat b e with h1 | h1
      · exact hb.2.2 _ a hk h1
      · have := hb.2.1; omega
    · rw [uq_other _ _ hjk] at hc; exact hb.2.2 j c hc
/-- one part more, in a new block -/
theorem Hq.tmore (h : Hq w B m) {k : K} (a' : Pa) (hk : m k = none) (hb : Below w.heap.size w w') (ha : a'.holds w' B)
    (hat : ∀ g, a'.block = some g → w.heap.size ≤ g) (hB : B ≤ w.heap.size) : Turn B m w (uq m k a') w' := by
  have h' := (h.call hB hb).hp
  refine ⟨⟨fun j b hb => ?_, fun i j b c g hi hj hbi hbj => ?_⟩, hb.mono hB, fun b hb' => ⟨hb.block b hb'.2.1, hb'.1, Nat.lt_of_lt_of_le hb'.2.1 hb.size, fun j c hc => ?_⟩⟩
  · by_cases hjk : j = k
    · subst hjk; rw [uq_same] at hb; cases hb; exact ha
    · rw [uq_other _ _ hjk] at hb; exact h'.holds j b hb
  · by_cases hik : i = k
    · by_cases hjk : j = k
      · rw [hik, hjk]
      · subst hik
        rw [uq_same] at hi; cases hi
        rw [uq_other _ _ hjk] at hj
        exact absurd (Pa.lt (h.holds j c hj) hbj).2 (by have := hat g hbi; omega)
    · by_cases hjk : j = k
      · subst hjk
        rw [uq_same] at hj; cases hj
        rw [uq_other _ _ hik] at hi
        exact absurd (Pa.lt (h.holds i b hi) hbi).2 (by have := hat g hbj; omega)
      · rw [uq_other _ _ hik] at hi; rw [uq_other _ _ hjk] at hj
        exact h.apart i j b c g hi hj hbi hbj
  · by_cases hjk : j = k
    · subst hjk; rw [uq_same] at hc; cases hc
      intro e
      have := hat b e
      have := hb'.2.1
      omega
    · rw [uq_other _ _ hjk] at hc; exact hb'.2.2 j c hc
end

/-- two cells of a block: a part that is told by them -/
structure Cn (g o : Nat) (C : Value → Value → Pa) : Prop where
  block : ∀ a b, (C a b).block = some g
  read : ∀ {w B a b}, (C a b).holds w B → w.cell? ⟨g, o, none⟩ = some a ∧ w.cell? ⟨g, o + 1, none⟩ = some b ∧ ∀ j, w.frozen? ⟨g, j, none⟩ = false
  set0 : ∀ {w B a b} u, (C a b).holds w B → (C u b).holds (w.setCell ⟨g, o, none⟩ u) B
  set1 : ∀ {w B a b} u, (C a b).holds w B → (C a u).holds (w.setCell ⟨g, o + 1, none⟩ u) B
theorem cn_blk (g : Nat) (t : TypeId) : Cn g 0 (fun a b => .blk g #[a, b] t) :=
  ⟨fun _ _ => rfl, fun h => ⟨blk_cell h.2 0, blk_cell h.2 1, blk_free h.2⟩,
   fun {w _ a b} u h => ⟨h.1, heap_setCell_same w g 0 #[a, b] t u h.2⟩, fun {w _ a b} u h => ⟨h.1, heap_setCell_same w g 1 #[a, b] t u h.2⟩⟩
theorem cn_row (e : TypeId) (g n c : Nat) (pre suf : List Value) {o : Nat} (ho : pre.length = o) : Cn g o (fun a b => .row e 2 (.slice (some ⟨g, 0, none⟩) n c) n (pre ++ a :: b :: suf)) := by
  subst ho
  refine ⟨fun _ _ => rfl, fun {w B a b} h => ?_, fun {w B a b} u h => ?_, fun {w B a b} u h => ?_⟩
  · have h : w.ownsRow B e 2 (.slice (some ⟨g, 0, none⟩) n c) n (pre ++ a :: b :: suf) := h
    exact ⟨il_own_cell h (by simp), il_own_cell h (by simp), fun j => World.ownsRow.frozenAt h j⟩
  · have h : w.ownsRow B e 2 (.slice (some ⟨g, 0, none⟩) n c) n (pre ++ a :: b :: suf) := h
    have := (World.ownsRow.stored h pre.length u).1
    show World.ownsRow _ _ _ _ _ _ _
    simpa using this
  · have h : w.ownsRow B e 2 (.slice (some ⟨g, 0, none⟩) n c) n (pre ++ a :: b :: suf) := h
    have := (World.ownsRow.stored h (pre.length + 1) u).1
    rw [List.set_append_right _ _ (by omega), show pre.length + 1 - pre.length = 1 by omega] at this
    exact this

/-! ### a row that grows, in memory -/
abbrev Ky := Nat × Nat
structure Ks where
  g : Ky
  i : Ky
  p : Ky
structure Ks.ok (k : Ks) : Prop where
  gi : k.i ≠ k.g
  gp : k.p ≠ k.g
  ip : k.p ≠ k.i
def rinl (R : Il.Rw) (v : Value) (css : List (List Value)) : Pa := .row 30 4 v R.l.length css.flatten
def rpln (R : Il.Rw) (v : Value) : Pa := .row 5 1 v R.p.length (bcells R.p)
def rowm (m : Ky → Option Pa) (k : Ks) (C : Value → Value → Pa) (R : Il.Rw) (vi vp : Value) (css : List (List Value)) : Ky → Option Pa := uq (uq (uq m k.g (C vi vp)) k.i (rinl R vi css)) k.p (rpln R vp)
section
variable {m : Ky → Option Pa} {k : Ks} {C : Value → Value → Pa} {R : Il.Rw} {vi vp : Value} {css : List (List Value)} {w w' : World} {B g o : Nat}
theorem rowm_g (hk : k.ok) : rowm m k C R vi vp css k.g = some (C vi vp) := by
  unfold rowm; rw [uq_other _ _ (Ne.symm hk.gp), uq_other _ _ (Ne.symm hk.gi), uq_same]
theorem rowm_i (hk : k.ok) : rowm m k C R vi vp css k.i = some (rinl R vi css) := by
  unfold rowm; rw [uq_other _ _ (Ne.symm hk.ip), uq_same]
theorem rowm_p : rowm m k C R vi vp css k.p = some (rpln R vp) := by unfold rowm; rw [uq_same]
theorem rowm_other {j : Ky} (h1 : j ≠ k.g) (h2 : j ≠ k.i) (h3 : j ≠ k.p) : rowm m k C R vi vp css j = m j := by
  unfold rowm; rw [uq_other _ _ h3, uq_other _ _ h2, uq_other _ _ h1]
/-- what is known of such a row -/
theorem rowm_all (hk : k.ok) (hC : Cn g o C) (h : Hq w B (rowm m k C R vi vp css)) :
    w.cell? ⟨g, o, none⟩ = some vi ∧ w.cell? ⟨g, o + 1, none⟩ = some vp ∧ (∀ j, w.frozen? ⟨g, j, none⟩ = false) ∧ B ≤ g ∧ g < w.heap.size ∧ w.ownsRow B 30 4 vi R.l.length css.flatten ∧ w.ownsRow B 5 1 vp R.p.length (bcells R.p) ∧ vi.ownBlock ≠ some g ∧ vp.ownBlock ≠ some g := by
  have hg := h.holds _ _ (rowm_g hk)
  obtain ⟨h1, h2, h3⟩ := hC.read hg
  have h4 := Pa.lt hg (hC.block _ _)
  refine ⟨h1, h2, h3, h4.1, h4.2, h.holds _ _ (rowm_i hk), h.holds _ _ rowm_p, fun e => ?_, fun e => ?_⟩
  · exact hk.gi (h.apart _ _ _ _ g (rowm_i hk) (rowm_g hk) e (hC.block _ _))
  · exact hk.gp (h.apart _ _ _ _ g rowm_p (rowm_g hk) e (hC.block _ _))
/-- where another row grows, the two cells stay -/
theorem rowm_stay (hk : k.ok) (hC : Cn g o C) (h : Hq w B (rowm m k C R vi vp css)) {row : Option Nat} (hg : w.grownBy w' row) (hne : row ≠ some g) :
    w'.cell? ⟨g, o, none⟩ = some vi ∧ w'.cell? ⟨g, o + 1, none⟩ = some vp ∧ (∀ j, w'.frozen? ⟨g, j, none⟩ = false) ∧ g < w'.heap.size := by
  have hh := Pa.kept (h.holds _ _ (rowm_g hk)) hg (.inr (by rw [hC.block]; exact fun e => hne e.symm))
  obtain ⟨h1, h2, h3⟩ := hC.read hh
  exact ⟨h1, h2, h3, (Pa.lt hh (hC.block _ _)).2⟩
/-- the plain text is another one -/
theorem rowm_pln (hk : k.ok) (hC : Cn g o C) (h : Hq w B (rowm m k C R vi vp css)) (hB : B ≤ w.heap.size) {R' : Il.Rw} {vp' : Value} (hl : R'.l = R.l) (hg : w.grownBy w' vp.ownBlock) (ho : w'.ownsRow B 5 1 vp' R'.p.length (bcells R'.p)) (hat : At w.heap.size vp vp') :
    Turn B (rowm m k C R vi vp css) w (rowm m k C R' vi vp' css) (w'.setCell ⟨g, o + 1, none⟩ vp') := by
  have t1 := h.tput (k := k.p) (rpln R' vp') rowm_p hg ho hat hB
  have e0 : uq (rowm m k C R vi vp css) k.p (rpln R' vp') k.g = some (C vi vp) := by rw [uq_other _ _ (Ne.symm hk.gp), rowm_g hk]
  have t2 := t1.hp.tput (k := k.g) (w' := w'.setCell ⟨g, o + 1, none⟩ vp') (C vi vp') e0 (by rw [hC.block]; exact grown_set w' ⟨g, o + 1, none⟩ vp') (hC.set1 vp' (t1.hp.holds _ _ e0)) (fun g' hg' => .inl (by rw [hC.block] at hg' ⊢; exact hg')) (Nat.le_trans hB t1.bel.size)
  have t := t1.trans t2
  have e : uq (uq (rowm m k C R vi vp css) k.p (rpln R' vp')) k.g (C vi vp') = rowm m k C R' vi vp' css := by
    have : rinl R' vi css = rinl R vi css := by unfold rinl; rw [hl]
    unfold rowm
    rw [this, uq_uq, uq_comm _ hk.gp, uq_comm (uq m k.g (C vi vp)) hk.gi, uq_uq]
  rwa [e] at t
/-- the inlines are others -/
theorem rowm_inl (hk : k.ok) (hC : Cn g o C) (h : Hq w B (rowm m k C R vi vp css)) (hB : B ≤ w.heap.size) {R' : Il.Rw} {vi' : Value} {css' : List (List Value)} (hp : R'.p = R.p) (hg : w.grownBy w' vi.ownBlock) (ho : w'.ownsRow B 30 4 vi' R'.l.length css'.flatten) (hat : At w.heap.size vi vi') :
    Turn B (rowm m k C R vi vp css) w (rowm m k C R' vi' vp css') (w'.setCell ⟨g, o, none⟩ vi') := by
  have t1 := h.tput (k := k.i) (rinl R' vi' css') (rowm_i hk) hg ho hat hB
  have e0 : uq (rowm m k C R vi vp css) k.i (rinl R' vi' css') k.g = some (C vi vp) := by rw [uq_other _ _ (Ne.symm hk.gi), rowm_g hk]
  have t2 := t1.hp.tput (k := k.g) (w' := w'.setCell ⟨g, o, none⟩ vi') (C vi' vp) e0 (by rw [hC.block]; exact grown_set w' ⟨g, o, none⟩ vi') (hC.set0 vi' (t1.hp.holds _ _ e0)) (fun g' hg' => .inl (by rw [hC.block] at hg' ⊢; exact hg')) (Nat.le_trans hB t1.bel.size)
  have t := t1.trans t2
  have e : uq (uq (rowm m k C R vi vp css) k.i (rinl R' vi' css')) k.g (C vi' vp) = rowm m k C R' vi' vp css' := by
    have : rpln R' vp = rpln R vp := by unfold rpln; rw [hp]
    unfold rowm
    rw [this, uq_comm _ hk.ip, uq_uq, uq_comm _ hk.gp, uq_comm (uq m k.g (C vi vp)) hk.gi, uq_uq]
  rwa [e] at t
end
end Go.Proofs.YtkfhkfagmokjpaaDoor

namespace Go.Proofs.YtkfhkfagmokjpaaDoor
open Go.RowKit

theorem ilBytEI : EI Tryd.prog 22 5 1 1 := EI.mk' (z := .int .u8 0) Tryd.underlying22 (by kernel_rfl) rfl (by omega)
/-- what behind a rune's bytes is known -/
def RunePut (B : Nat) (v : Value) (n : Nat) (xs : List Value) (cs : List Value) (w : World) (e : Ending) (w' : World) : Prop :=
  ∃ v', e = .returned v' ∧ w'.ownsRow B 5 1 v' (n + cs.length) (xs ++ cs) ∧ w.grownBy w' v.ownBlock ∧ At w.heap.size v v' ∧ Below B w w'
section
variable (B : Nat) (v : Value) (n : Nat) (xs : List Value) (r : Int) (w : World) (hown : w.ownsRow B 5 1 v n xs) (hlen : n ≤ 100000000000) (hBw : B ≤ w.heap.size)
set_option maxHeartbeats 4000000 in
set_option maxRecDepth 100000 in
include hown hlen hBw in
theorem arn_two (h0 : 128 ≤ r) (h1 : r ≤ 2047) : Calls Tryd.prog 60 #[v, .int .i32 r] w fun e w' => RunePut B v n xs [.int .u8 (192 + r / 64), .int .u8 (128 + r % 64)] w e w' := by
  go_enter Tryd.func60, Tryd.ntmps60
  go_wp2_with (at_builtin; refine wpList_app_two rfl (.tmp 14) (.tmp 23) rfl ilBytEI rfl hown rfl rfl rfl (by intro u hu; simp at hu; rcases hu with rfl | rfl <;> rfl) (by omega) (by omega) hBw ?_; intro v' w2 ho hg hb hat)
  go_ret
  exact ⟨_, rfl, ho, hg.out, hat.out, hb⟩
set_option maxHeartbeats 4000000 in
set_option maxRecDepth 100000 in
include hown hlen hBw in
theorem arn_lo (h0 : 2048 ≤ r) (h1 : r < 55296) : Calls Tryd.prog 60 #[v, .int .i32 r] w fun e w' => RunePut B v n xs [.int .u8 (224 + r / 4096), .int .u8 (128 + r / 64 % 64), .int .u8 (128 + r % 64)] w e w' := by
  go_enter Tryd.func60, Tryd.ntmps60
  go_wp2_with (at_builtin; refine wpList_app_two rfl (.tmp 34) (.tmp 48) rfl ilBytEI rfl hown rfl rfl rfl (by intro u hu; simp at hu; rcases hu with rfl | rfl | rfl <;> rfl) (by omega) (by omega) hBw ?_; intro v' w2 ho hg hb hat)
  go_ret
  exact ⟨_, rfl, ho, hg.out, hat.out, hb⟩
set_option maxHeartbeats 4000000 in
set_option maxRecDepth 100000 in
include hown hlen hBw in
theorem arn_hi (h0 : 57343 < r) (h1 : r ≤ 65535) : Calls Tryd.prog 60 #[v, .int .i32 r] w fun e w' => RunePut B v n xs [.int .u8 (224 + r / 4096), .int .u8 (128 + r / 64 % 64), .int .u8 (128 + r % 64)] w e w' := by
  go_enter Tryd.func60, Tryd.ntmps60
  go_wp2_with (at_builtin; refine wpList_app_two rfl (.tmp 34) (.tmp 48) rfl ilBytEI rfl hown rfl rfl rfl (by intro u hu; simp at hu; rcases hu with rfl | rfl | rfl <;> rfl) (by omega) (by omega) hBw ?_; intro v' w2 ho hg hb hat)
  go_ret
  exact ⟨_, rfl, ho, hg.out, hat.out, hb⟩
set_option maxHeartbeats 4000000 in
set_option maxRecDepth 100000 in
include hown hlen hBw in
theorem arn_four (h0 : 65536 ≤ r) (h1 : r ≤ 1114111) : Calls Tryd.prog 60 #[v, .int .i32 r] w fun e w' => RunePut B v n xs [.int .u8 (240 + r / 262144), .int .u8 (128 + r / 4096 % 64), .int .u8 (128 + r / 64 % 64), .int .u8 (128 + r % 64)] w e w' := by
  go_enter Tryd.func60, Tryd.ntmps60
  go_wp2_with (at_builtin; refine wpList_app_two rfl (.tmp 57) (.tmp 76) rfl ilBytEI rfl hown rfl rfl rfl (by intro u hu; simp at hu; rcases hu with rfl | rfl | rfl | rfl <;> rfl) (by omega) (by omega) hBw ?_; intro v' w2 ho hg hb hat)
  go_ret
  exact ⟨_, rfl, ho, hg.out, hat.out, hb⟩
set_option maxHeartbeats 4000000 in
set_option maxRecDepth 100000 in
include hown hlen hBw in
theorem arn_one (h0 : 0 ≤ r) (h1 : r ≤ 127) : Calls Tryd.prog 43 #[v, .int .i32 r] w fun e w' => RunePut B v n xs [.int .u8 r] w e w' := by
  go_enter Tryd.func43, Tryd.ntmps43
  go_wp2_with (at_builtin; refine wpList_app_two rfl (.tmp 8) (.tmp 11) rfl ilBytEI rfl hown rfl rfl rfl (by intro u hu; simp at hu; rcases hu with rfl; rfl) (by omega) (by omega) hBw ?_; intro v' w2 ho hg hb hat)
  go_ret
  exact ⟨_, rfl, ho, hg.out, hat.out, hb⟩
set_option maxHeartbeats 4000000 in
set_option maxRecDepth 100000 in
theorem arn_other (cs : List Value) (h0 : 128 ≤ r) (h1 : r ≤ 1114111) (hc : ∀ w1, w1.ownsRow B 5 1 v n xs → B ≤ w1.heap.size → Calls Tryd.prog 60 #[v, .int .i32 r] w1 fun e w' => RunePut B v n xs cs w1 e w') (hown : w.ownsRow B 5 1 v n xs) (hBw : B ≤ w.heap.size) : Calls Tryd.prog 43 #[v, .int .i32 r] w fun e w' => RunePut B v n xs cs w e w' := by
  go_enter Tryd.func43, Tryd.ntmps43
  go_wp2_with fail
  refine (hc _ hown hBw).mono ?_
  rintro e w1 ⟨v', rfl, h1, h2, h3, h4⟩
  replace h1 := Lib.hid h1
  replace h2 := Lib.hid h2
  replace h3 := Lib.hid h3
  replace h4 := Lib.hid h4
  go_wp2_with fail
  go_ret
  exact ⟨_, rfl, h1.out, h2.out, h3.out, h4.out⟩
end
/-- a rune's bytes, behind what there is -/
theorem par_any (B : Nat) (v : Value) (l : List UInt8) (r : Nat) (hr : Ru.vr r) (w : World) (hown : w.ownsRow B 5 1 v l.length (bcells l)) (hlen : l.length ≤ 100000000000) (hBw : B ≤ w.heap.size) :
    Calls Tryd.prog 43 #[v, .int .i32 (r : Int)] w fun e w' => ∃ v', e = .returned v' ∧ w'.ownsRow B 5 1 v' (l ++ Lib.encodeRune (r : Int)).length (bcells (l ++ Lib.encodeRune (r : Int))) ∧ w.grownBy w' v.ownBlock ∧ At w.heap.size v v' ∧ Below B w w' := by
  have key : Calls Tryd.prog 43 #[v, .int .i32 (r : Int)] w fun e w' => RunePut B v l.length (bcells l) (Lib.runeCells (r : Int)) w e w' := by
    unfold Ru.vr at hr
    by_cases c0 : r ≤ 127
    · rw [show Lib.runeCells (r : Int) = [.int .u8 (r : Int)] by simp [Lib.runeCells, Lib.encodeRuneZ_one (r := (r : Int)) (by omega) (by omega)]]
      exact arn_one B v _ _ r w hown hlen hBw (by omega) (by omega)
    by_cases c1 : r ≤ 2047
    · rw [show Lib.runeCells (r : Int) = [.int .u8 (192 + (r : Int) / 64), .int .u8 (128 + (r : Int) % 64)] by simp [Lib.runeCells, Lib.encodeRuneZ_two (r := (r : Int)) (by omega) (by omega)]]
      exact arn_other B v _ _ r w _ (by omega) (by omega) (fun w1 h1 h2 => arn_two B v _ _ r w1 h1 hlen h2 (by omega) (by omega)) hown hBw
    by_cases c2 : r < 55296
    · rw [show Lib.runeCells (r : Int) = [.int .u8 (224 + (r : Int) / 4096), .int .u8 (128 + (r : Int) / 64 % 64), .int .u8 (128 + (r : Int) % 64)] by simp [Lib.runeCells, Lib.encodeRuneZ_three (r := (r : Int)) (Or.inl ⟨by omega, by omega⟩)]]
      exact arn_other B v _ _ r w _ (by omega) (by omega) (fun w1 h1 h2 => arn_lo B v _ _ r w1 h1 hlen h2 (by omega) (by omega)) hown hBw
    by_cases c4 : r ≤ 65535
    · rw [show Lib.runeCells (r : Int) = [.int .u8 (224 + (r : Int) / 4096), .int .u8 (128 + (r : Int) / 64 % 64), .int .u8 (128 + (r : Int) % 64)] by simp [Lib.runeCells, Lib.encodeRuneZ_three (r := (r : Int)) (Or.inr ⟨by omega, by omega⟩)]]
      exact arn_other B v _ _ r w _ (by omega) (by omega) (fun w1 h1 h2 => arn_hi B v _ _ r w1 h1 hlen h2 (by omega) (by omega)) hown hBw
    · rw [show Lib.runeCells (r : Int) = [.int .u8 (240 + (r : Int) / 262144), .int .u8 (128 + (r : Int) / 4096 % 64), .int .u8 (128 + (r : Int) / 64 % 64), .int .u8 (128 + (r : Int) % 64)] by simp [Lib.runeCells, Lib.encodeRuneZ_four (r := (r : Int)) (by omega) (by omega)]]
      exact arn_other B v _ _ r w _ (by omega) (by omega) (fun w1 h1 h2 => arn_four B v _ _ r w1 h1 hlen h2 (by omega) (by omega)) hown hBw
  refine key.mono ?_
  rintro e w' ⟨v', he, h1, h2, h3, h4⟩
  refine ⟨v', he, ?_, h2, h3, h4⟩
  have e1 : bcells (l ++ Lib.encodeRune (r : Int)) = bcells l ++ Lib.runeCells (r : Int) := by
    rw [show Lib.runeCells (r : Int) = bcells (Lib.encodeRune (r : Int)) from (Lib.byteCells_encodeRune _).symm]
    simp [bcells]
  rw [e1, List.length_append, ← Lib.runeCells_length]
  exact h1
end Go.Proofs.YtkfhkfagmokjpaaDoor

namespace Go.Proofs.YtkfhkfagmokjpaaDoor
open Go.RowKit

set_option maxHeartbeats 4000000 in
set_option maxRecDepth 100000 in
/-- the last row's place -/
theorem plast_any (g n c : Nat) (hn : 0 < n) (hn2 : n ≤ 1000000000000) (w : World) : Calls Tryd.prog 22 #[.slice (some ⟨g, 0, none⟩) n c] w fun e w' => e = .returned (.pointer (some ⟨g, (n - 1) * 2, none⟩)) ∧ w' = w := by
  obtain ⟨k, rfl⟩ : ∃ k, n = k + 1 := ⟨n - 1, by omega⟩
  have h1 : ((k + 1 : Nat) : Int) - 1 = (k : Int) := by omega
  go_enter Tryd.func22, Tryd.ntmps22
  go_wp2_with fail
  go_ret
  exact ⟨by simp, rfl⟩

section
variable {m : Ky → Option Pa} {k : Ks} {C : Value → Value → Pa} {R : Il.Rw} {vi vp : Value} {css : List (List Value)} {w : World} {B g o : Nat}
set_option maxHeartbeats 4000000 in
set_option maxRecDepth 100000 in
theorem psayRune_any (hk : k.ok) (hC : Cn g o C) (h : Hq w B (rowm m k C R vi vp css)) (hB : B ≤ w.heap.size) (r : Nat) (hr : Ru.vr r) (hl : R.p.length ≤ 100000000000) :
    Calls Tryd.prog 30 #[.pointer (some ⟨g, o, none⟩), .int .i32 (r : Int)] w fun e w' => e = .returned (.tuple #[]) ∧ ∃ vp', Turn B (rowm m k C R vi vp css) w (rowm m k C (R.say (Lib.encodeRune (r : Int))) vi vp' css) w' := by
  obtain ⟨c0, c1, cf, hBg, hgz, oi, op, nei, nep⟩ := rowm_all hk hC h
  have hst := Lib.hid (fun (w' : World) (hg : w.grownBy w' vp.ownBlock) => rowm_stay hk hC h hg nep)
  have hfin := Lib.hid (fun (w' : World) (vp' : Value) ho hg hat => rowm_pln (w' := w') (R' := R.say (Lib.encodeRune (r : Int))) (vp' := vp') hk hC h hB rfl hg ho hat)
  have hc := Lib.hid (par_any B vp R.p r hr w op hl hB)
  obtain ⟨A, c, rfl, hc3⟩ := own_shape op
  clear h oi op nei nep c0
  go_enter Tryd.func30, Tryd.ntmps30
  go_wp2_with fail
  refine hc.out.mono ?_
  rintro e w1 ⟨v', rfl, h1, h2, h3, h4⟩
  obtain ⟨d0, d1, df, hgz1⟩ := hst.out _ h2
  have hfin1 := Lib.hid (hfin.out _ v' h1 h2 h3)
  obtain ⟨A1, c1', rfl, _⟩ := own_shape h1
  clear h1 h2 h3 h4 d0 hst hfin hc
  generalize (R.p ++ Lib.encodeRune (r : Int)).length = n1 at *
  go_wp2_with fail
  go_returns
  exact ⟨rfl, _, hfin1.out⟩
end
end Go.Proofs.YtkfhkfagmokjpaaDoor

namespace Go.Proofs.YtkfhkfagmokjpaaDoor
open Go.RowKit

/-- a store, as a maker of a tree -/
theorem wpT_store {P : Program} {ops : Array Oper} {Q : Exit → Act → World → Prop} {S : World → Prop} {i : Nat} {r : OT} {a : Act} {w w' : World} {o : Oper} (ho : ops[i]? = some o) (hw : Region.wanted o (yielded ops a.tmps) = true)
    (hrun : (execOp a.eval o).run P w = .ok .skip w') (hS : S w') (h : wpT P ops Q r S (a.put o.dst undef) w') : wpT P ops Q (.mk i r) S a w :=
  ⟨o, ho, by
    unfold canOp
    rw [if_pos hw, if_neg (by simp)]
    unfold Oper.wp
    rw [hrun]
    exact ⟨S, hS, fun _ h => h, h⟩⟩
/-- four cells stored at a row's last element -/
def set4 (w : World) (g o : Nat) (a b c d : Value) : World := (((w.setCell ⟨g, o, none⟩ a).setCell ⟨g, o + 1, none⟩ b).setCell ⟨g, o + 2, none⟩ c).setCell ⟨g, o + 3, none⟩ d
theorem exec_store4 {P : Program} {ev : Operand → Value} {T : TypeId} {p x : Operand} {o : Oper} {w : World} {g off : Nat} {k : Int} {s t : ByteArray} {A : Option Addr} {n c : Nat} {z0 z1 z2 z3 : Value} (ho : o.op = .store T p x) (hsz : (sizeOf T).run P w = .ok 4 w) (hp : ev p = .pointer (some ⟨g, off, none⟩)) (hx : ev x = .agg #[.int .i64 k, .string s, .string t, .slice A n c])
    (h0 : w.cell? ⟨g, off, none⟩ = some z0) (h1 : w.cell? ⟨g, off + 1, none⟩ = some z1) (h2 : w.cell? ⟨g, off + 2, none⟩ = some z2) (h3 : w.cell? ⟨g, off + 3, none⟩ = some z3) (hf : ∀ j, w.frozen? ⟨g, j, none⟩ = false) :
    (execOp ev o).run P w = .ok .skip (set4 w g off (.int .i64 k) (.string s) (.string t) (.slice A n c)) := by
  unfold execOp set4
  rw [ho]
  go_simp
theorem exec_store1 {P : Program} {ev : Operand → Value} {T : TypeId} {p x : Operand} {o : Oper} {w : World} {g off : Nat} {A : Option Addr} {n c : Nat} {z0 : Value} (ho : o.op = .store T p x) (hsz : (sizeOf T).run P w = .ok 1 w) (hp : ev p = .pointer (some ⟨g, off, none⟩)) (hx : ev x = .slice A n c)
    (h0 : w.cell? ⟨g, off, none⟩ = some z0) (hf : ∀ j, w.frozen? ⟨g, j, none⟩ = false) :
    (execOp ev o).run P w = .ok .skip (w.setCell ⟨g, off, none⟩ (.slice A n c)) := by
  unfold execOp
  rw [ho]
  go_simp
end Go.Proofs.YtkfhkfagmokjpaaDoor

namespace Go.Proofs.YtkfhkfagmokjpaaDoor
open Go.RowKit
attribute [local go_sem] canOp readsAs readUpon

theorem hq_some {w : World} {B size n : Nat} {E : TypeId} {v : Value} {xs : List Value} (h : w.ownsRow B E size v n xs) (hn : 0 < n) : ∃ g c, v = .slice (some ⟨g, 0, none⟩) n c ∧ n ≤ c ∧ B ≤ g ∧ g < w.heap.size := by
  rcases h.2 with ⟨_, h0⟩ | ⟨g, c, cur, rfl, hB, hg, hc, _⟩
  · omega
  · exact ⟨g, c, rfl, hc, hB, (Array.getElem?_eq_some_iff.1 hg).1⟩
theorem own_or {v : Value} {x : Option Nat} (h : ∀ b, v.ownBlock = some b → some b ≠ x) : v.ownBlock = none ∨ v.ownBlock ≠ x := by
  cases hb : v.ownBlock with
  | none => exact .inl rfl
  | some b => exact .inr (h b hb)
theorem keep_cell {w w' : World} {g : Nat} (h : w'.heap[g]? = w.heap[g]?) (j : Nat) {v : Value} (hc : w.cell? ⟨g, j, none⟩ = some v) : w'.cell? ⟨g, j, none⟩ = some v := by
  rw [World.cell?_of_block (a := ⟨g, j, none⟩) h]; exact hc
theorem keep_frz {w w' : World} {g : Nat} (h : w'.heap[g]? = w.heap[g]?) (hf : ∀ j, w.frozen? ⟨g, j, none⟩ = false) (j : Nat) : w'.frozen? ⟨g, j, none⟩ = false := by
  rw [World.frozen?_of_block (a := ⟨g, j, none⟩) h]; exact hf j
theorem grown_drew {w w' : World} {r : Option Nat} (h : w.drew.grownBy w' r) : w.grownBy w' r := ⟨h.os, h.tape, h.output, h.size, h.block⟩
/-- append of a row, as a maker of a tree -/
theorem wpT_app {P : Program} {ops : Array Oper} {Q : Exit → Act → World → Prop} {S : World → Prop} {i : Nat} {r : OT} {a : Act} {w : World} {o : Oper} (ho : ops[i]? = some o) (hg : o.guard = none) (s x : Operand) {T : TypeId}
    (hop : o.op = .call { callee := .builtin .append, args := #[s, x], argTypes := #[T, T] })
    {E : TypeId} {size bytes : Nat} (hE : EI P T E size bytes) {base n : Nat} {v : Value} {xs : List Value} (hs : a.eval s = v) (hown : w.ownsRow base E size v n xs)
    {B m c : Nat} {A : Option Addr} {news : List Value} (hx : a.eval x = .slice A m c) (hr : Row w B size A m news) (h1 : ∀ u ∈ news, u.oneCell' = true) (h63 : n + m ≤ 1000000000000) (hbytes : bytes ≤ 100) (hbase : base ≤ w.heap.size)
    (h : ∀ v' w', w'.ownsRow base E size v' (n + m) (xs ++ news) → Hid (w.grownBy w' v.ownBlock) → Below base w w' → Hid (At w.heap.size v v') → ∃ S' : World → Prop, S' w' ∧ (∀ u, S' u → S u) ∧ wpT P ops Q r S' (a.put o.dst v') w') :
    wpT P ops Q (.mk i r) S a w :=
  ⟨o, ho, by
    unfold canOp
    rw [if_pos (by simp [Region.wanted, hg]), if_neg (by simp)]
    exact wp_app_row_at s x hop hE hs hown hx hr h1 h63 hbytes hbase h⟩
theorem set4_own {w : World} {B g n c : Nat} {E : TypeId} {xs : List Value} {z0 z1 z2 z3 : Value} (ho : w.ownsRow B E 4 (.slice (some ⟨g, 0, none⟩) (n + 1) c) (n + 1) (xs ++ [z0, z1, z2, z3])) (hx : xs.length = n * 4) (a b c' d : Value) :
    (set4 w g (n * 4) a b c' d).ownsRow B E 4 (.slice (some ⟨g, 0, none⟩) (n + 1) c) (n + 1) (xs ++ [a, b, c', d]) := by
  have h1 := (World.ownsRow.stored ho (n * 4) a).1
  have h2 := (World.ownsRow.stored h1 (n * 4 + 1) b).1
  have h3 := (World.ownsRow.stored h2 (n * 4 + 2) c').1
  have h4 := (World.ownsRow.stored h3 (n * 4 + 3) d).1
  have e : ((((xs ++ [z0, z1, z2, z3]).set (n * 4) a).set (n * 4 + 1) b).set (n * 4 + 2) c').set (n * 4 + 3) d = xs ++ [a, b, c', d] := by
    rw [← hx]
    simp
  rw [e] at h4
  exact h4
theorem set4_grown (w : World) (g o : Nat) (a b c d : Value) : w.grownBy (set4 w g o a b c d) (some g) := by
  have h1 := grown_set w ⟨g, o, none⟩ a
  have h2 := grown_set (w.setCell ⟨g, o, none⟩ a) ⟨g, o + 1, none⟩ b
  have h3 := grown_set ((w.setCell ⟨g, o, none⟩ a).setCell ⟨g, o + 1, none⟩ b) ⟨g, o + 2, none⟩ c
  have h4 := grown_set (((w.setCell ⟨g, o, none⟩ a).setCell ⟨g, o + 1, none⟩ b).setCell ⟨g, o + 2, none⟩ c) ⟨g, o + 3, none⟩ d
  refine ⟨by rw [set4, h4.os, h3.os, h2.os, h1.os], by rw [set4, h4.tape, h3.tape, h2.tape, h1.tape], by rw [set4, h4.output, h3.output, h2.output, h1.output], Nat.le_trans (Nat.le_trans (Nat.le_trans h1.size h2.size) h3.size) h4.size, fun k hk hne => ?_⟩
  have z1 := h1.size
  have z2 := h2.size
  have z3 := h3.size
  exact (h4.block k (by omega) hne).trans ((h3.block k (by omega) hne).trans ((h2.block k (by omega) hne).trans (h1.block k hk hne)))
/-- what changed where it may -/
theorem grown_at {w w1 w2 : World} {v v' : Value} {g : Nat} (h1 : w.grownBy w1 v.ownBlock) (hat : At w.heap.size v v') (hv : v'.ownBlock = some g) (h2 : w1.grownBy w2 (some g)) : w.grownBy w2 v.ownBlock :=
  ⟨h2.os.trans h1.os, h2.tape.trans h1.tape, h2.output.trans h1.output, Nat.le_trans h1.size h2.size, fun k hk hne => by
    have := h1.size
    refine (h2.block k (by omega) (fun e => ?_)).trans (h1.block k hk hne)
    injection e with e
    subst e
    rcases hat k hv with e | e
    · exact hne e.symm
    · omega⟩
theorem at_new {w : World} {o : Obj} {v v' : Value} (h : At (w.drew.alloc o).heap.size v v') : At w.heap.size v v' := fun g hg => (h g hg).imp id (fun e => by simp at e; omega)
section
variable {m : Ky → Option Pa} {k : Ks} {C : Value → Value → Pa} {R : Il.Rw} {vi vp : Value} {css : List (List Value)} {w w' : World} {B g o : Nat}
theorem rowm_inl2 (hk : k.ok) {R' : Il.Rw} {vi' : Value} {css' : List (List Value)} (hp : R'.p = R.p) (hB : B ≤ w.heap.size) (h : Hq w B (rowm m k C R vi vp css)) (hg : w.grownBy w' vi.ownBlock) (ho : w'.ownsRow B 30 4 vi' R'.l.length css'.flatten) (hv : vi'.ownBlock = vi.ownBlock) (hc : C vi' vp = C vi vp) :
    Turn B (rowm m k C R vi vp css) w (rowm m k C R' vi' vp css') w' := by
  have t := h.tput (k := k.i) (rinl R' vi' css') (rowm_i hk) hg ho (fun g hg => .inl (by
    have e : vi'.ownBlock = some g := hg
    show vi.ownBlock = some g
    rw [← hv]; exact e)) hB
  have e : uq (rowm m k C R vi vp css) k.i (rinl R' vi' css') = rowm m k C R' vi' vp css' := by
    have : rpln R' vp = rpln R vp := by unfold rpln; rw [hp]
    unfold rowm
    rw [this, uq_comm _ hk.ip, uq_uq, hc]
  rwa [e] at t
/-- the plain text is none -/
theorem rowm_none (hk : k.ok) (hC : Cn g o C) {A : Option Addr} {n c : Nat} (h : Hq w B (rowm m k C R vi (.slice A n c) css)) (hB : B ≤ w.heap.size) :
    Turn B (rowm m k C R vi (.slice A n c) css) w (rowm m k C ⟨R.l, []⟩ vi (.slice A 0 c) css) (w.setCell ⟨g, o + 1, none⟩ (.slice A 0 c)) := by
  obtain ⟨_, _, _, _, _, _, op, _, _⟩ := rowm_all hk hC h
  have ho : w.ownsRow B 5 1 (.slice A 0 c) 0 [] := by
    refine ⟨rfl, ?_⟩
    rcases op.2 with ⟨e, _⟩ | ⟨g', cap, cur, e, h1, h2, h3, h4, h5, h6⟩
    · injection e with e1 e2 e3; subst e1 e3; exact .inl ⟨rfl, rfl⟩
    · injection e with e1 e2 e3; subst e1 e3; exact .inr ⟨g', c, cur, rfl, h1, h2, Nat.zero_le _, h4, h5, by simp⟩
  refine rowm_pln hk hC h hB (R' := ⟨R.l, []⟩) rfl (World.grownBy.refl w _) ho (fun g hg => .inl ?_)
  cases A with
  | none => cases hg
  | some a => exact hg

set_option maxHeartbeats 8000000 in
set_option maxRecDepth 100000 in
theorem pall_some (hk : k.ok) (hC : Cn g o C) (h : Hq w B (rowm m k C R vi vp css)) (hI : ICs w (Fr w B (rowm m k C R vi vp css)) R.l css) (hB : B ≤ w.heap.size) (hp : R.p ≠ []) (hl : R.p.length ≤ 100000000000) (hll : R.l.length ≤ 100000000000) :
    Calls Tryd.prog 25 #[.pointer (some ⟨g, o, none⟩)] w fun e w' => ∃ vi', e = .returned vi' ∧ ∃ vp' css', Turn B (rowm m k C R vi vp css) w (rowm m k C ⟨R.full, []⟩ vi' vp' css') w' ∧ ICs w' (Fr w' B (rowm m k C ⟨R.full, []⟩ vi' vp' css')) R.full css' := by
  obtain ⟨c0, c1, cf, hBg, hgz, oi, op, nei, nep⟩ := rowm_all hk hC h
  have hpl : 0 < R.p.length := List.length_pos_iff.2 hp
  have hfull : Hid (R.full = R.l ++ [Il.word R.p]) := Lib.hid (by unfold Il.Rw.full; rw [if_neg hp])
  obtain ⟨A, c, rfl, hc3⟩ := own_shape op
  obtain ⟨A2, c2, rfl, hc4⟩ := own_shape oi
  have nip : ∀ b, (Value.slice A R.p.length c).ownBlock = some b → (Value.slice A2 R.l.length c2).ownBlock ≠ some b := fun b hb hb2 => hk.ip (h.apart _ _ _ _ b rowm_p (rowm_i hk) hb hb2)
  have hcv := fun (u : World) (hu : u.ownsRow B 5 1 (.slice A R.p.length c) R.p.length (bcells R.p)) => run_text (c := c) (Row.own hu) 22 5 9 Tryd.underlying22 (by kernel_rfl) Tryd.underlying9
  have hS : (fun u : World => u.cell? ⟨g, o + 1, none⟩ = some (.slice A R.p.length c) ∧ u.ownsRow B 5 1 (.slice A R.p.length c) R.p.length (bcells R.p)) w.drew := ⟨c1, op.drew⟩
  have hS1 : (fun u : World => u.cell? ⟨g, o + 1, none⟩ = some (.slice A R.p.length c) ∧ u.ownsRow B 5 1 (.slice A R.p.length c) R.p.length (bcells R.p)) (w.drew.alloc (.cells #[.int .i64 0, .string ⟨#[]⟩, .string ⟨#[]⟩, .slice none 0 0] 30)) := ⟨(World.cell?_alloc_lt _ _ _ hgz).trans c1, op.drew.alloc _⟩
  go_enter Tryd.func25, Tryd.ntmps25
  go_upto_region 2 with fail
  refine wp_region_tree (.rd 0 (.rd 1 (.rd 2 (.rd 4 (.rd 5 (.rd 6 (.rd 7 (.rd 8 (.rd 9 (.fk 3 (.rd 10 (.mk 11 (.mk 12 (.rd 13 (.rd 15 (.rd 16 (.fk 14 (.mk 17 .fin) 17 (.mk 14 .fin)))))))) 11 (.mk 3 (.rd 10 (.mk 12 (.rd 13 (.rd 15 (.rd 16 (.fk 14 (.mk 17 .fin) 17 (.mk 14 .fin)))))))))))))))))) (fun u : World => u.cell? ⟨g, o + 1, none⟩ = some (.slice A R.p.length c) ∧ u.ownsRow B 5 1 (.slice A R.p.length c) R.p.length (bcells R.p)) hS (by kernel_rfl) (by kernel_rfl) (by kernel_rfl) (fun _ _ d _ _ h => by cases d <;> exact h) ?_
  (first | refine wpT_move rfl ?_ | (refine wpT_rd rfl ?_; intro K hK; go_simp; refine hK _ _ _ ?_; clear hK K))
  (first | refine wpT_move rfl ?_ | (refine wpT_rd rfl ?_; intro K hK; go_simp; refine hK _ _ _ ?_; clear hK K))
  (first | refine wpT_move rfl ?_ | (refine wpT_rd rfl ?_; intro K hK; go_simp; refine hK _ _ _ ?_; clear hK K))
  (first | refine wpT_move rfl ?_ | (refine wpT_rd rfl ?_; intro K hK; go_simp; refine hK _ _ _ ?_; clear hK K))
  (first | refine wpT_move rfl ?_ | (refine wpT_rd rfl ?_; intro K hK; go_simp; refine hK _ _ _ ?_; clear hK K))
  (first | refine wpT_move rfl ?_ | (refine wpT_rd rfl ?_; intro K hK; go_simp; refine hK _ _ _ ?_; clear hK K))
  refine wpT_read (.slice A R.p.length c) rfl rfl hS (fun u hu => by have h1 := hu.1; go_simp) ?_
  refine wpT_read (.string (bs R.p)) rfl rfl hS (fun u hu => by have h1 := hcv u hu.2; go_simp) ?_
  (first | refine wpT_move rfl ?_ | (refine wpT_rd rfl ?_; intro K hK; go_simp; refine hK _ _ _ ?_; clear hK K))
  refine wpT_fk ?wa ?wb
  case' wa =>
    refine wpT_mk rfl ?_
    intro K hK
    go_simp
    refine ⟨_, hS, fun _ h => h, hK _ _ _ ?_⟩
    clear hK K
    (first | refine wpT_move rfl ?_ | (refine wpT_rd rfl ?_; intro K hK; go_simp; refine hK _ _ _ ?_; clear hK K))
    refine wpT_mk rfl ?_
    intro K hK
    go_simp
    refine ⟨_, hS1, fun _ h => h, hK _ _ _ ?_⟩
    clear hK K
    refine wpT_app rfl rfl (.tmp 12) (.tmp 20) rfl inlEI (v := .slice A2 R.l.length c2) rfl (oi.drew.alloc _) rfl (Row.freshN w.drew 30 _ rfl rfl) (by intro u hu; simp at hu; rcases hu with rfl | rfl | rfl | rfl <;> rfl) (by omega) (by omega) (by simp; omega) ?_
    intro v' w' ho hg hb hat
    obtain ⟨g', c', rfl, hc', hBg', hgz'⟩ := hq_some ho (by omega)
    have hat2 := at_new (w := w) hat.out
    have hgw : w.grownBy w' (Value.slice A2 R.l.length c2).ownBlock := grown_new (w0 := w) (grown_drew hg.out)
    have hnew : ∀ b, b < w.heap.size → (Value.slice A2 R.l.length c2).ownBlock ≠ some b → b ≠ g' := fun b hb hne e => by
      subst e
      rcases hat2 b rfl with e | e
      · exact hne e
      · omega
    have hgg : g ≠ g' := hnew g hgz nei
    obtain ⟨d0, d1, df, dz⟩ := rowm_stay hk hC h hgw (fun e => nei e)
    have op2 : w'.ownsRow B 5 1 (.slice A R.p.length c) R.p.length (bcells R.p) := World.ownsRow.kept op hgw (own_or (fun b hb e => nip b hb e.symm))
    have hpg : (Value.slice A R.p.length c).ownBlock = none ∨ (Value.slice A R.p.length c).ownBlock ≠ some g' := own_or (fun b hb e => hnew b (World.ownsRow.lt op b hb).2 (nip b hb) (Option.some.inj e))
    have hpo : (Value.slice A R.p.length c).ownBlock = none ∨ (Value.slice A R.p.length c).ownBlock ≠ some g := .inr nep
    have hS2 : (fun u : World => u.cell? ⟨g, o + 1, none⟩ = some (.slice A R.p.length c) ∧ u.ownsRow B 5 1 (.slice A R.p.length c) R.p.length (bcells R.p)) w' := ⟨d1, op2⟩
    refine ⟨_, hS2, fun _ h => h, ?_⟩
    have ff := fun j => World.ownsRow.frozenAt ho j
    have hlt1 : (0 : Int) ≤ (R.l.length : Int) := by omega
    have hlt2 : (R.l.length : Int) < (R.l.length : Int) + 1 := by omega
    have hcl := ICs_length hI
    have e0 : w'.cell? ⟨g', R.l.length * 4, none⟩ = some (.int .i64 0) := il_own_cell ho (by rw [List.getElem?_append_right (by omega), hcl, show R.l.length * 4 - R.l.length * 4 = 0 by omega]; rfl)
    have e1 : w'.cell? ⟨g', R.l.length * 4 + 1, none⟩ = some (.string ⟨#[]⟩) := il_own_cell ho (by rw [List.getElem?_append_right (by omega), hcl, show R.l.length * 4 + 1 - R.l.length * 4 = 1 by omega]; rfl)
    have e2 : w'.cell? ⟨g', R.l.length * 4 + 2, none⟩ = some (.string ⟨#[]⟩) := il_own_cell ho (by rw [List.getElem?_append_right (by omega), hcl, show R.l.length * 4 + 2 - R.l.length * 4 = 2 by omega]; rfl)
    have e3 : w'.cell? ⟨g', R.l.length * 4 + 3, none⟩ = some (.slice none 0 0) := il_own_cell ho (by rw [List.getElem?_append_right (by omega), hcl, show R.l.length * 4 + 3 - R.l.length * 4 = 3 by omega]; rfl)
    (first | refine wpT_move rfl ?_ | (refine wpT_rd rfl ?_; intro K hK; go_simp; refine hK _ _ _ ?_; clear hK K))
    (first | refine wpT_move rfl ?_ | (refine wpT_rd rfl ?_; intro K hK; go_simp; refine hK _ _ _ ?_; clear hK K))
    (first | refine wpT_move rfl ?_ | (refine wpT_rd rfl ?_; intro K hK; go_simp; refine hK _ _ _ ?_; clear hK K))
    have ho4 := set4_own ho hcl (.int .i64 0) (.string (bs R.p)) (.string ⟨#[]⟩) (.slice none 0 0)
    have hg4 := set4_grown w' g' (R.l.length * 4) (.int .i64 0) (.string (bs R.p)) (.string ⟨#[]⟩) (.slice none 0 0)
    have hleaf : (css ++ [[Value.int .i64 0, .string (bs R.p), .string ⟨#[]⟩, .slice none 0 0]]).flatten = css.flatten ++ [.int .i64 0, .string (bs R.p), .string ⟨#[]⟩, .slice none 0 0] := by simp
    have hlen : (⟨R.l ++ [Il.word R.p], R.p⟩ : Il.Rw).l.length = R.l.length + 1 := by simp
    refine wpT_fk ?wc ?wd
    case' wc =>
      have hS3 : (fun u : World => u.cell? ⟨g, o + 1, none⟩ = some (.slice A R.p.length c) ∧ u.ownsRow B 5 1 (.slice A R.p.length c) R.p.length (bcells R.p)) (set4 w' g' (R.l.length * 4) (.int .i64 0) (.string (bs R.p)) (.string ⟨#[]⟩) (.slice none 0 0)) := ⟨keep_cell (hg4.block g dz (fun e => hgg (Option.some.inj e))) _ d1, World.ownsRow.kept op2 hg4 hpg⟩
      refine wpT_store rfl rfl (exec_store4 rfl (by kernel_rfl) rfl rfl e0 e1 e2 e3 ff) hS3 ?_
      have t := rowm_inl hk hC h hB (R' := ⟨R.l ++ [Il.word R.p], R.p⟩) (css' := css ++ [[Value.int .i64 0, .string (bs R.p), .string ⟨#[]⟩, .slice none 0 0]]) rfl (grown_at hgw hat2 rfl hg4) (by rw [hlen, hleaf]; exact ho4) hat2
      have k0 : (set4 w' g' (R.l.length * 4) (.int .i64 0) (.string (bs R.p)) (.string ⟨#[]⟩) (.slice none 0 0)).cell? ⟨g, o, none⟩ = some (.slice A2 R.l.length c2) := keep_cell (hg4.block g dz (fun e => hgg (Option.some.inj e))) _ d0
      have kf : ∀ j, (set4 w' g' (R.l.length * 4) (.int .i64 0) (.string (bs R.p)) (.string ⟨#[]⟩) (.slice none 0 0)).frozen? ⟨g, j, none⟩ = false := keep_frz (hg4.block g dz (fun e => hgg (Option.some.inj e))) df
      have hS4 : (fun u : World => u.cell? ⟨g, o + 1, none⟩ = some (.slice A R.p.length c) ∧ u.ownsRow B 5 1 (.slice A R.p.length c) R.p.length (bcells R.p)) ((set4 w' g' (R.l.length * 4) (.int .i64 0) (.string (bs R.p)) (.string ⟨#[]⟩) (.slice none 0 0)).setCell ⟨g, o, none⟩ (.slice (some ⟨g', 0, none⟩) (R.l.length + 1) c')) := ⟨(World.cell?_setCell_other _ ⟨g, o, none⟩ ⟨g, o + 1, none⟩ _ (by intro h; injection h with _ h2 _; omega)).trans hS3.1, World.ownsRow.kept hS3.2 (grown_set _ ⟨g, o, none⟩ _) hpo⟩
      refine wpT_store rfl rfl (exec_store1 rfl (by kernel_rfl) rfl rfl k0 kf) hS4 ?_
      clear hS3 hS4 k0 kf
      generalize World.setCell _ _ _ = W at t ⊢
      have hI2 := ICs_snoc (t := Il.word R.p) (cs := [Value.int .i64 0, .string (bs R.p), .string ⟨#[]⟩, .slice none 0 0]) (t.kids hI) (IC_leaf 0 R.p [])
      have hB2 := Nat.le_trans hB t.bel.size
      obtain ⟨f0, f1, ffz, _, fgz, _, _, _, _⟩ := rowm_all hk hC t.hp
      have t3 := Lib.hid (t.trans (rowm_none hk hC t.hp hB2))
      have hI3 := Lib.hid ((rowm_none hk hC t.hp hB2).kids hI2)
      rw [← hfull.out] at t3 hI3
      clear t hI2 e0 e1 e2 e3 d0 d1 df ff ho hg hb hat hgw op2 hS2 ho4 hg4 hleaf hlen hS hS1 hcv c0 c1 cf oi op h hI hpg hpo nei nep nip hat2 hnew
      refine wpT_fin ?_
      go_wp2_with fail
      go_ret
      exact ⟨_, rfl, _, _, t3.out, hI3.out⟩
    case' wd =>
      have hS3 : (fun u : World => u.cell? ⟨g, o + 1, none⟩ = some (.slice A R.p.length c) ∧ u.ownsRow B 5 1 (.slice A R.p.length c) R.p.length (bcells R.p)) (w'.setCell ⟨g, o, none⟩ (.slice (some ⟨g', 0, none⟩) (R.l.length + 1) c')) := ⟨(World.cell?_setCell_other _ ⟨g, o, none⟩ ⟨g, o + 1, none⟩ _ (by intro h; injection h with _ h2 _; omega)).trans d1, World.ownsRow.kept op2 (grown_set _ ⟨g, o, none⟩ _) hpo⟩
      refine wpT_store rfl rfl (exec_store1 rfl (by kernel_rfl) rfl rfl d0 df) hS3 ?_
      have tz := rowm_inl hk hC h hB (R' := ⟨R.l ++ [Il.word R.p], R.p⟩) (css' := css ++ [[Value.int .i64 0, .string ⟨#[]⟩, .string ⟨#[]⟩, .slice none 0 0]]) rfl hgw (by rw [hlen]; simpa using ho) hat2
      have gk : w'.grownBy (w'.setCell ⟨g, o, none⟩ (.slice (some ⟨g', 0, none⟩) (R.l.length + 1) c')) (some g) := grown_set _ ⟨g, o, none⟩ _
      have hoz : (w'.setCell ⟨g, o, none⟩ (.slice (some ⟨g', 0, none⟩) (R.l.length + 1) c')).ownsRow B 30 4 (.slice (some ⟨g', 0, none⟩) (R.l.length + 1) c') (R.l.length + 1) (css.flatten ++ [.int .i64 0, .string ⟨#[]⟩, .string ⟨#[]⟩, .slice none 0 0]) := World.ownsRow.kept ho gk (.inr (fun e => hgg (Option.some.inj e).symm))
      have fz := fun j => World.ownsRow.frozenAt hoz j
      have z0 : (w'.setCell ⟨g, o, none⟩ (.slice (some ⟨g', 0, none⟩) (R.l.length + 1) c')).cell? ⟨g', R.l.length * 4, none⟩ = some (.int .i64 0) := il_own_cell hoz (by rw [List.getElem?_append_right (by omega), hcl, show R.l.length * 4 - R.l.length * 4 = 0 by omega]; rfl)
      have z1 : (w'.setCell ⟨g, o, none⟩ (.slice (some ⟨g', 0, none⟩) (R.l.length + 1) c')).cell? ⟨g', R.l.length * 4 + 1, none⟩ = some (.string ⟨#[]⟩) := il_own_cell hoz (by rw [List.getElem?_append_right (by omega), hcl, show R.l.length * 4 + 1 - R.l.length * 4 = 1 by omega]; rfl)
      have z2 : (w'.setCell ⟨g, o, none⟩ (.slice (some ⟨g', 0, none⟩) (R.l.length + 1) c')).cell? ⟨g', R.l.length * 4 + 2, none⟩ = some (.string ⟨#[]⟩) := il_own_cell hoz (by rw [List.getElem?_append_right (by omega), hcl, show R.l.length * 4 + 2 - R.l.length * 4 = 2 by omega]; rfl)
      have z3 : (w'.setCell ⟨g, o, none⟩ (.slice (some ⟨g', 0, none⟩) (R.l.length + 1) c')).cell? ⟨g', R.l.length * 4 + 3, none⟩ = some (.slice none 0 0) := il_own_cell hoz (by rw [List.getElem?_append_right (by omega), hcl, show R.l.length * 4 + 3 - R.l.length * 4 = 3 by omega]; rfl)
      have hg5 := set4_grown (w'.setCell ⟨g, o, none⟩ (.slice (some ⟨g', 0, none⟩) (R.l.length + 1) c')) g' (R.l.length * 4) (.int .i64 0) (.string (bs R.p)) (.string ⟨#[]⟩) (.slice none 0 0)
      have hS4 : (fun u : World => u.cell? ⟨g, o + 1, none⟩ = some (.slice A R.p.length c) ∧ u.ownsRow B 5 1 (.slice A R.p.length c) R.p.length (bcells R.p)) (set4 (w'.setCell ⟨g, o, none⟩ (.slice (some ⟨g', 0, none⟩) (R.l.length + 1) c')) g' (R.l.length * 4) (.int .i64 0) (.string (bs R.p)) (.string ⟨#[]⟩) (.slice none 0 0)) := ⟨keep_cell (hg5.block g (Nat.lt_of_lt_of_le dz gk.size) (fun e => hgg (Option.some.inj e))) _ hS3.1, World.ownsRow.kept hS3.2 hg5 hpg⟩
      have t := tz.trans (rowm_inl2 hk (R' := ⟨R.l ++ [Il.word R.p], R.p⟩) (css' := css ++ [[Value.int .i64 0, .string (bs R.p), .string ⟨#[]⟩, .slice none 0 0]]) rfl (Nat.le_trans hB tz.bel.size) tz.hp hg5 (by rw [hlen, hleaf]; exact set4_own hoz hcl (.int .i64 0) (.string (bs R.p)) (.string ⟨#[]⟩) (.slice none 0 0)) rfl rfl)
      refine wpT_store rfl rfl (exec_store4 rfl (by kernel_rfl) rfl rfl z0 z1 z2 z3 fz) hS4 ?_
      clear hS4 z0 z1 z2 z3 fz
      generalize set4 _ _ _ _ _ _ _ = W at t ⊢
      clear hS3 tz gk hoz hg5
      have hI2 := ICs_snoc (t := Il.word R.p) (cs := [Value.int .i64 0, .string (bs R.p), .string ⟨#[]⟩, .slice none 0 0]) (t.kids hI) (IC_leaf 0 R.p [])
      have hB2 := Nat.le_trans hB t.bel.size
      obtain ⟨f0, f1, ffz, _, fgz, _, _, _, _⟩ := rowm_all hk hC t.hp
      have t3 := Lib.hid (t.trans (rowm_none hk hC t.hp hB2))
      have hI3 := Lib.hid ((rowm_none hk hC t.hp hB2).kids hI2)
      rw [← hfull.out] at t3 hI3
      clear t hI2 e0 e1 e2 e3 d0 d1 df ff ho hg hb hat hgw op2 hS2 ho4 hg4 hleaf hlen hS hS1 hcv c0 c1 cf oi op h hI hpg hpo nei nep nip hat2 hnew
      refine wpT_fin ?_
      go_wp2_with fail
      go_ret
      exact ⟨_, rfl, _, _, t3.out, hI3.out⟩
  case' wb =>
    have c0' := (World.cell?_alloc_lt w.drew (.cells #[.int .i64 0, .string ⟨#[]⟩, .string ⟨#[]⟩, .slice none 0 0] 30) ⟨g, o, none⟩ hgz).trans c0
    refine wpT_mk rfl ?_
    intro K hK
    go_simp
    refine ⟨_, hS1, fun _ h => h, hK _ _ _ ?_⟩
    clear hK K
    refine wpT_mk rfl ?_
    intro K hK
    go_simp
    refine ⟨_, hS1, fun _ h => h, hK _ _ _ ?_⟩
    clear hK K
    (first | refine wpT_move rfl ?_ | (refine wpT_rd rfl ?_; intro K hK; go_simp; refine hK _ _ _ ?_; clear hK K))
    refine wpT_app rfl rfl (.tmp 12) (.tmp 20) rfl inlEI (v := .slice A2 R.l.length c2) rfl (oi.drew.alloc _) rfl (Row.freshN w.drew 30 _ rfl rfl) (by intro u hu; simp at hu; rcases hu with rfl | rfl | rfl | rfl <;> rfl) (by omega) (by omega) (by simp; omega) ?_
    intro v' w' ho hg hb hat
    obtain ⟨g', c', rfl, hc', hBg', hgz'⟩ := hq_some ho (by omega)
    have hat2 := at_new (w := w) hat.out
    have hgw : w.grownBy w' (Value.slice A2 R.l.length c2).ownBlock := grown_new (w0 := w) (grown_drew hg.out)
    have hnew : ∀ b, b < w.heap.size → (Value.slice A2 R.l.length c2).ownBlock ≠ some b → b ≠ g' := fun b hb hne e => by
      subst e
      rcases hat2 b rfl with e | e
      · exact hne e
      · omega
    have hgg : g ≠ g' := hnew g hgz nei
    obtain ⟨d0, d1, df, dz⟩ := rowm_stay hk hC h hgw (fun e => nei e)
    have op2 : w'.ownsRow B 5 1 (.slice A R.p.length c) R.p.length (bcells R.p) := World.ownsRow.kept op hgw (own_or (fun b hb e => nip b hb e.symm))
    have hpg : (Value.slice A R.p.length c).ownBlock = none ∨ (Value.slice A R.p.length c).ownBlock ≠ some g' := own_or (fun b hb e => hnew b (World.ownsRow.lt op b hb).2 (nip b hb) (Option.some.inj e))
    have hpo : (Value.slice A R.p.length c).ownBlock = none ∨ (Value.slice A R.p.length c).ownBlock ≠ some g := .inr nep
    have hS2 : (fun u : World => u.cell? ⟨g, o + 1, none⟩ = some (.slice A R.p.length c) ∧ u.ownsRow B 5 1 (.slice A R.p.length c) R.p.length (bcells R.p)) w' := ⟨d1, op2⟩
    refine ⟨_, hS2, fun _ h => h, ?_⟩
    have ff := fun j => World.ownsRow.frozenAt ho j
    have hlt1 : (0 : Int) ≤ (R.l.length : Int) := by omega
    have hlt2 : (R.l.length : Int) < (R.l.length : Int) + 1 := by omega
    have hcl := ICs_length hI
    have e0 : w'.cell? ⟨g', R.l.length * 4, none⟩ = some (.int .i64 0) := il_own_cell ho (by rw [List.getElem?_append_right (by omega), hcl, show R.l.length * 4 - R.l.length * 4 = 0 by omega]; rfl)
    have e1 : w'.cell? ⟨g', R.l.length * 4 + 1, none⟩ = some (.string ⟨#[]⟩) := il_own_cell ho (by rw [List.getElem?_append_right (by omega), hcl, show R.l.length * 4 + 1 - R.l.length * 4 = 1 by omega]; rfl)
    have e2 : w'.cell? ⟨g', R.l.length * 4 + 2, none⟩ = some (.string ⟨#[]⟩) := il_own_cell ho (by rw [List.getElem?_append_right (by omega), hcl, show R.l.length * 4 + 2 - R.l.length * 4 = 2 by omega]; rfl)
    have e3 : w'.cell? ⟨g', R.l.length * 4 + 3, none⟩ = some (.slice none 0 0) := il_own_cell ho (by rw [List.getElem?_append_right (by omega), hcl, show R.l.length * 4 + 3 - R.l.length * 4 = 3 by omega]; rfl)
    (first | refine wpT_move rfl ?_ | (refine wpT_rd rfl ?_; intro K hK; go_simp; refine hK _ _ _ ?_; clear hK K))
    (first | refine wpT_move rfl ?_ | (refine wpT_rd rfl ?_; intro K hK; go_simp; refine hK _ _ _ ?_; clear hK K))
    (first | refine wpT_move rfl ?_ | (refine wpT_rd rfl ?_; intro K hK; go_simp; refine hK _ _ _ ?_; clear hK K))
    have ho4 := set4_own ho hcl (.int .i64 0) (.string (bs R.p)) (.string ⟨#[]⟩) (.slice none 0 0)
    have hg4 := set4_grown w' g' (R.l.length * 4) (.int .i64 0) (.string (bs R.p)) (.string ⟨#[]⟩) (.slice none 0 0)
    have hleaf : (css ++ [[Value.int .i64 0, .string (bs R.p), .string ⟨#[]⟩, .slice none 0 0]]).flatten = css.flatten ++ [.int .i64 0, .string (bs R.p), .string ⟨#[]⟩, .slice none 0 0] := by simp
    have hlen : (⟨R.l ++ [Il.word R.p], R.p⟩ : Il.Rw).l.length = R.l.length + 1 := by simp
    refine wpT_fk ?we ?wf
    case' we =>
      have hS3 : (fun u : World => u.cell? ⟨g, o + 1, none⟩ = some (.slice A R.p.length c) ∧ u.ownsRow B 5 1 (.slice A R.p.length c) R.p.length (bcells R.p)) (set4 w' g' (R.l.length * 4) (.int .i64 0) (.string (bs R.p)) (.string ⟨#[]⟩) (.slice none 0 0)) := ⟨keep_cell (hg4.block g dz (fun e => hgg (Option.some.inj e))) _ d1, World.ownsRow.kept op2 hg4 hpg⟩
      refine wpT_store rfl rfl (exec_store4 rfl (by kernel_rfl) rfl rfl e0 e1 e2 e3 ff) hS3 ?_
      have t := rowm_inl hk hC h hB (R' := ⟨R.l ++ [Il.word R.p], R.p⟩) (css' := css ++ [[Value.int .i64 0, .string (bs R.p), .string ⟨#[]⟩, .slice none 0 0]]) rfl (grown_at hgw hat2 rfl hg4) (by rw [hlen, hleaf]; exact ho4) hat2
      have k0 : (set4 w' g' (R.l.length * 4) (.int .i64 0) (.string (bs R.p)) (.string ⟨#[]⟩) (.slice none 0 0)).cell? ⟨g, o, none⟩ = some (.slice A2 R.l.length c2) := keep_cell (hg4.block g dz (fun e => hgg (Option.some.inj e))) _ d0
      have kf : ∀ j, (set4 w' g' (R.l.length * 4) (.int .i64 0) (.string (bs R.p)) (.string ⟨#[]⟩) (.slice none 0 0)).frozen? ⟨g, j, none⟩ = false := keep_frz (hg4.block g dz (fun e => hgg (Option.some.inj e))) df
      have hS4 : (fun u : World => u.cell? ⟨g, o + 1, none⟩ = some (.slice A R.p.length c) ∧ u.ownsRow B 5 1 (.slice A R.p.length c) R.p.length (bcells R.p)) ((set4 w' g' (R.l.length * 4) (.int .i64 0) (.string (bs R.p)) (.string ⟨#[]⟩) (.slice none 0 0)).setCell ⟨g, o, none⟩ (.slice (some ⟨g', 0, none⟩) (R.l.length + 1) c')) := ⟨(World.cell?_setCell_other _ ⟨g, o, none⟩ ⟨g, o + 1, none⟩ _ (by intro h; injection h with _ h2 _; omega)).trans hS3.1, World.ownsRow.kept hS3.2 (grown_set _ ⟨g, o, none⟩ _) hpo⟩
      refine wpT_store rfl rfl (exec_store1 rfl (by kernel_rfl) rfl rfl k0 kf) hS4 ?_
      clear hS3 hS4 k0 kf
      generalize World.setCell _ _ _ = W at t ⊢
      have hI2 := ICs_snoc (t := Il.word R.p) (cs := [Value.int .i64 0, .string (bs R.p), .string ⟨#[]⟩, .slice none 0 0]) (t.kids hI) (IC_leaf 0 R.p [])
      have hB2 := Nat.le_trans hB t.bel.size
      obtain ⟨f0, f1, ffz, _, fgz, _, _, _, _⟩ := rowm_all hk hC t.hp
      have t3 := Lib.hid (t.trans (rowm_none hk hC t.hp hB2))
      have hI3 := Lib.hid ((rowm_none hk hC t.hp hB2).kids hI2)
      rw [← hfull.out] at t3 hI3
      clear t hI2 e0 e1 e2 e3 d0 d1 df ff ho hg hb hat hgw op2 hS2 ho4 hg4 hleaf hlen hS hS1 hcv c0 c1 cf oi op h hI hpg hpo nei nep nip hat2 hnew
      refine wpT_fin ?_
      go_wp2_with fail
      go_ret
      exact ⟨_, rfl, _, _, t3.out, hI3.out⟩
    case' wf =>
      have hS3 : (fun u : World => u.cell? ⟨g, o + 1, none⟩ = some (.slice A R.p.length c) ∧ u.ownsRow B 5 1 (.slice A R.p.length c) R.p.length (bcells R.p)) (w'.setCell ⟨g, o, none⟩ (.slice (some ⟨g', 0, none⟩) (R.l.length + 1) c')) := ⟨(World.cell?_setCell_other _ ⟨g, o, none⟩ ⟨g, o + 1, none⟩ _ (by intro h; injection h with _ h2 _; omega)).trans d1, World.ownsRow.kept op2 (grown_set _ ⟨g, o, none⟩ _) hpo⟩
      refine wpT_store rfl rfl (exec_store1 rfl (by kernel_rfl) rfl rfl d0 df) hS3 ?_
      have tz := rowm_inl hk hC h hB (R' := ⟨R.l ++ [Il.word R.p], R.p⟩) (css' := css ++ [[Value.int .i64 0, .string ⟨#[]⟩, .string ⟨#[]⟩, .slice none 0 0]]) rfl hgw (by rw [hlen]; simpa using ho) hat2
      have gk : w'.grownBy (w'.setCell ⟨g, o, none⟩ (.slice (some ⟨g', 0, none⟩) (R.l.length + 1) c')) (some g) := grown_set _ ⟨g, o, none⟩ _
      have hoz : (w'.setCell ⟨g, o, none⟩ (.slice (some ⟨g', 0, none⟩) (R.l.length + 1) c')).ownsRow B 30 4 (.slice (some ⟨g', 0, none⟩) (R.l.length + 1) c') (R.l.length + 1) (css.flatten ++ [.int .i64 0, .string ⟨#[]⟩, .string ⟨#[]⟩, .slice none 0 0]) := World.ownsRow.kept ho gk (.inr (fun e => hgg (Option.some.inj e).symm))
      have fz := fun j => World.ownsRow.frozenAt hoz j
      have z0 : (w'.setCell ⟨g, o, none⟩ (.slice (some ⟨g', 0, none⟩) (R.l.length + 1) c')).cell? ⟨g', R.l.length * 4, none⟩ = some (.int .i64 0) := il_own_cell hoz (by rw [List.getElem?_append_right (by omega), hcl, show R.l.length * 4 - R.l.length * 4 = 0 by omega]; rfl)
      have z1 : (w'.setCell ⟨g, o, none⟩ (.slice (some ⟨g', 0, none⟩) (R.l.length + 1) c')).cell? ⟨g', R.l.length * 4 + 1, none⟩ = some (.string ⟨#[]⟩) := il_own_cell hoz (by rw [List.getElem?_append_right (by omega), hcl, show R.l.length * 4 + 1 - R.l.length * 4 = 1 by omega]; rfl)
      have z2 : (w'.setCell ⟨g, o, none⟩ (.slice (some ⟨g', 0, none⟩) (R.l.length + 1) c')).cell? ⟨g', R.l.length * 4 + 2, none⟩ = some (.string ⟨#[]⟩) := il_own_cell hoz (by rw [List.getElem?_append_right (by omega), hcl, show R.l.length * 4 + 2 - R.l.length * 4 = 2 by omega]; rfl)
      have z3 : (w'.setCell ⟨g, o, none⟩ (.slice (some ⟨g', 0, none⟩) (R.l.length + 1) c')).cell? ⟨g', R.l.length * 4 + 3, none⟩ = some (.slice none 0 0) := il_own_cell hoz (by rw [List.getElem?_append_right (by omega), hcl, show R.l.length * 4 + 3 - R.l.length * 4 = 3 by omega]; rfl)
      have hg5 := set4_grown (w'.setCell ⟨g, o, none⟩ (.slice (some ⟨g', 0, none⟩) (R.l.length + 1) c')) g' (R.l.length * 4) (.int .i64 0) (.string (bs R.p)) (.string ⟨#[]⟩) (.slice none 0 0)
      have hS4 : (fun u : World => u.cell? ⟨g, o + 1, none⟩ = some (.slice A R.p.length c) ∧ u.ownsRow B 5 1 (.slice A R.p.length c) R.p.length (bcells R.p)) (set4 (w'.setCell ⟨g, o, none⟩ (.slice (some ⟨g', 0, none⟩) (R.l.length + 1) c')) g' (R.l.length * 4) (.int .i64 0) (.string (bs R.p)) (.string ⟨#[]⟩) (.slice none 0 0)) := ⟨keep_cell (hg5.block g (Nat.lt_of_lt_of_le dz gk.size) (fun e => hgg (Option.some.inj e))) _ hS3.1, World.ownsRow.kept hS3.2 hg5 hpg⟩
      have t := tz.trans (rowm_inl2 hk (R' := ⟨R.l ++ [Il.word R.p], R.p⟩) (css' := css ++ [[Value.int .i64 0, .string (bs R.p), .string ⟨#[]⟩, .slice none 0 0]]) rfl (Nat.le_trans hB tz.bel.size) tz.hp hg5 (by rw [hlen, hleaf]; exact set4_own hoz hcl (.int .i64 0) (.string (bs R.p)) (.string ⟨#[]⟩) (.slice none 0 0)) rfl rfl)
      refine wpT_store rfl rfl (exec_store4 rfl (by kernel_rfl) rfl rfl z0 z1 z2 z3 fz) hS4 ?_
      clear hS4 z0 z1 z2 z3 fz
      generalize set4 _ _ _ _ _ _ _ = W at t ⊢
      clear hS3 tz gk hoz hg5
      have hI2 := ICs_snoc (t := Il.word R.p) (cs := [Value.int .i64 0, .string (bs R.p), .string ⟨#[]⟩, .slice none 0 0]) (t.kids hI) (IC_leaf 0 R.p [])
      have hB2 := Nat.le_trans hB t.bel.size
      obtain ⟨f0, f1, ffz, _, fgz, _, _, _, _⟩ := rowm_all hk hC t.hp
      have t3 := Lib.hid (t.trans (rowm_none hk hC t.hp hB2))
      have hI3 := Lib.hid ((rowm_none hk hC t.hp hB2).kids hI2)
      rw [← hfull.out] at t3 hI3
      clear t hI2 e0 e1 e2 e3 d0 d1 df ff ho hg hb hat hgw op2 hS2 ho4 hg4 hleaf hlen hS hS1 hcv c0 c1 cf oi op h hI hpg hpo nei nep nip hat2 hnew
      refine wpT_fin ?_
      go_wp2_with fail
      go_ret
      exact ⟨_, rfl, _, _, t3.out, hI3.out⟩
set_option maxHeartbeats 8000000 in
set_option maxRecDepth 100000 in
theorem pall_empty (hk : k.ok) (hC : Cn g o C) (h : Hq w B (rowm m k C R vi vp css)) (hI : ICs w (Fr w B (rowm m k C R vi vp css)) R.l css) (hp : R.p = []) :
    Calls Tryd.prog 25 #[.pointer (some ⟨g, o, none⟩)] w fun e w' => ∃ vi', e = .returned vi' ∧ ∃ vp' css', Turn B (rowm m k C R vi vp css) w (rowm m k C ⟨R.full, []⟩ vi' vp' css') w' ∧ ICs w' (Fr w' B (rowm m k C ⟨R.full, []⟩ vi' vp' css')) R.full css' := by
  obtain ⟨c0, c1, cf, hBg, hgz, oi, op, nei, nep⟩ := rowm_all hk hC h
  obtain ⟨L, P⟩ := R
  simp only at hp
  subst hp
  have hfull : (⟨L, []⟩ : Il.Rw).full = L := by unfold Il.Rw.full; simp
  obtain ⟨A, c, rfl, hc3⟩ := own_shape op
  obtain ⟨A2, c2, rfl, hc4⟩ := own_shape oi
  simp only [List.length_nil] at c1
  have hfin := Lib.hid (show Turn B (rowm m k C ⟨L, []⟩ (.slice A2 L.length c2) (.slice A 0 c) css) w (rowm m k C ⟨(⟨L, []⟩ : Il.Rw).full, []⟩ (.slice A2 L.length c2) (.slice A 0 c) css) w ∧ ICs w (Fr w B (rowm m k C ⟨(⟨L, []⟩ : Il.Rw).full, []⟩ (.slice A2 L.length c2) (.slice A 0 c) css)) (⟨L, []⟩ : Il.Rw).full css by
    rw [hfull]; exact ⟨h.refl, hI⟩)
  simp only [List.length_nil] at h hI ⊢
  clear h hI oi op hfull
  go_enter Tryd.func25, Tryd.ntmps25
  go_wp2_with fail
  go_ret
  exact ⟨_, rfl, _, _, hfin.out.1, hfin.out.2⟩
/-- a row's inlines: its plain end is one of them then -/
theorem pall_any (hk : k.ok) (hC : Cn g o C) (h : Hq w B (rowm m k C R vi vp css)) (hI : ICs w (Fr w B (rowm m k C R vi vp css)) R.l css) (hB : B ≤ w.heap.size) (hl : R.p.length ≤ 100000000000) (hll : R.l.length ≤ 100000000000) :
    Calls Tryd.prog 25 #[.pointer (some ⟨g, o, none⟩)] w fun e w' => ∃ vi', e = .returned vi' ∧ ∃ vp' css', Turn B (rowm m k C R vi vp css) w (rowm m k C ⟨R.full, []⟩ vi' vp' css') w' ∧ ICs w' (Fr w' B (rowm m k C ⟨R.full, []⟩ vi' vp' css')) R.full css' := by
  by_cases hp : R.p = []
  · exact pall_empty hk hC h hI hp
  · exact pall_some hk hC h hI hB hp hl hll
end
end Go.Proofs.YtkfhkfagmokjpaaDoor
