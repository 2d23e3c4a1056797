/- Trees of blocks, as they lie in memory. No function of the program is spoken of here. Law 7: a tree that is as trees are is told so. A tape of numbers, read one by one: what it gives, and what it leaves as it was. A tape of numbers: words, ends, lines of whatever kind: that they come, and how long they are. A tape of numbers: a line of whatever kind. A tape of numbers: a document of lines of whatever kind. -/
import Derived.Test.YtmbcddehacfpgaaDoorMr02
import Derived.Test.YtmbcddehacfpgaaDoorMr03
import Derived.Laws.ResultCell
import Derived.Deep.QuietTactic
import Derived.BigQuiet
import Derived.Test.YtmbcddehacfpgaaDoorMr06
namespace Go.Proofs.YtmbcddehacfpgaaDoor
open Go.RowKit

/-- one part more beside the parser's -/
def shiftE (a : Part) (E : Nat → Option Part) : Nat → Option Part
  | 0 => some a
  | i + 1 => E i
section
variable {w : World} {B : Nat}
/-- a row's cell -/
theorem own_cell {e : TypeId} {size n g c : Nat} {xs : List Value} (h : w.ownsRow B e size (.slice (some ⟨g, 0, none⟩) n c) n xs) {j : Nat} {u : Value} (hj : xs[j]? = some u) : w.cell? ⟨g, j, none⟩ = some u := by
  have := World.ownsRow.cells h (g := g) rfl j u hj
  rwa [show (⟨g, 0, none⟩ : Addr).add j = ⟨g, j, none⟩ from by unfold Addr.add; split <;> simp_all] at this
theorem cell_of {g j : Nat} {cs : List Value} {t : TypeId} {fr : Nat × Nat} {v : Value} (h : w.heap[g]? = some (.cells ⟨cs⟩ t fr)) (hj : cs[j]? = some v) : w.cell? ⟨g, j, none⟩ = some v := by
  rw [blk_cell h j]; simpa using hj
theorem Hp.along {K K' : Type} {w : World} {B : Nat} {m : K → Option Part} (h : Hp w B m) (f : K' → K) (hf : ∀ i j, f i = f j → i = j) {m' : K' → Option Part} (hm : ∀ k, m' k = m (f k)) : Hp w B m' :=
  ⟨fun k a ha => h.holds (f k) a (by rw [← hm]; exact ha), fun i j a b g hi hj ha hb => hf i j (h.apart (f i) (f j) a b g (by rw [← hm]; exact hi) (by rw [← hm]; exact hj) ha hb)⟩
theorem Hp.drew {K : Type} {m : K → Option Part} {w : World} {B : Nat} (h : Hp w B m) : Hp w.drew B m := h.ext (ext_drew w)
/-- a row in a block that is allowed -/
def RowQ (w : World) (Q : Nat → Prop) (size : Nat) (A : Option Addr) (n : Nat) (xs : List Value) : Prop :=
  xs.length = n * size ∧ (0 < n → ∃ b o, A = some ⟨b, o, none⟩ ∧ Q b ∧ ∀ j u, xs[j]? = some u → w.cell? ⟨b, o + j, none⟩ = some u)
mutual
/-- a tree's cells, its rows in blocks that are allowed -/
def TC (w : World) (Q : Nat → Prop) : Bk.Tree → List Value → Prop
  | .mk kd lv t inf ln ks, cs => ∃ A c css, cs = [.int .i64 (kd : Int), .int .i64 (lv : Int), .string (bs t), .string (bs inf), .int .i64 (ln : Int), .slice A ks.length c] ∧ ks.length ≤ c ∧ RowQ w Q 6 A ks.length css.flatten ∧ TCs w Q ks css
def TCs (w : World) (Q : Nat → Prop) : List Bk.Tree → List (List Value) → Prop
  | [], css => css = []
  | t :: ts, css => ∃ c0 cr, css = c0 :: cr ∧ TC w Q t c0 ∧ TCs w Q ts cr
end
theorem RowQ.frame {w w' : World} {Q Q' : Nat → Prop} {size n : Nat} {A : Option Addr} {xs : List Value} (h : RowQ w Q size A n xs) (hf : ∀ b, Q b → w'.heap[b]? = w.heap[b]?) (hq : ∀ b, Q b → Q' b) : RowQ w' Q' size A n xs := by
  refine ⟨h.1, fun hn => ?_⟩
  obtain ⟨b, o, hA, hb, hc⟩ := h.2 hn
  exact ⟨b, o, hA, hq b hb, fun j u hj => by rw [World.cell?_of_block (hf b hb)]; exact hc j u hj⟩
mutual
theorem TC_frame {w w' : World} {Q Q' : Nat → Prop} (hf : ∀ b, Q b → w'.heap[b]? = w.heap[b]?) (hq : ∀ b, Q b → Q' b) : ∀ {t : Bk.Tree} {cs : List Value}, TC w Q t cs → TC w' Q' t cs
  | .mk .., _, h => by
    unfold TC at h ⊢
    obtain ⟨A, c, css, h1, h2, h3, h4⟩ := h
    exact ⟨A, c, css, h1, h2, h3.frame hf hq, TCs_frame hf hq h4⟩
theorem TCs_frame {w w' : World} {Q Q' : Nat → Prop} (hf : ∀ b, Q b → w'.heap[b]? = w.heap[b]?) (hq : ∀ b, Q b → Q' b) : ∀ {ts : List Bk.Tree} {css : List (List Value)}, TCs w Q ts css → TCs w' Q' ts css
  | [], _, h => by unfold TCs at h ⊢; exact h
  | _ :: _, _, h => by
    unfold TCs at h ⊢
    obtain ⟨c0, cr, h1, h2, h3⟩ := h
    exact ⟨c0, cr, h1, TC_frame hf hq h2, TCs_frame hf hq h3⟩
end
theorem TCs_nil {w : World} {Q : Nat → Prop} : TCs w Q [] [] := by unfold TCs; rfl
theorem TCs_snoc {w : World} {Q : Nat → Prop} {ts : List Bk.Tree} {css : List (List Value)} {t : Bk.Tree} {cs : List Value} (h : TCs w Q ts css) (h2 : TC w Q t cs) : TCs w Q (ts ++ [t]) (css ++ [cs]) := by
  induction ts generalizing css with
  | nil =>
    unfold TCs at h
    subst h
    rw [List.nil_append, List.nil_append]
    unfold TCs
    exact ⟨cs, [], rfl, h2, TCs_nil⟩
  | cons x r ih =>
    unfold TCs at h
    obtain ⟨c0, cr, rfl, h3, h4⟩ := h
    rw [List.cons_append, List.cons_append]
    unfold TCs
    exact ⟨c0, cr ++ [cs], rfl, h3, ih h4⟩

theorem TC_six {w : World} {Q : Nat → Prop} {t : Bk.Tree} {cs : List Value} (h : TC w Q t cs) : ∃ a b c d e f, cs = [a, b, c, d, e, f] ∧ ∀ u ∈ cs, u.oneCell' = true := by
  cases t with
  | mk kd lv tx inf ln ks =>
    unfold TC at h
    obtain ⟨A, c, css, rfl, _⟩ := h
    refine ⟨_, _, _, _, _, _, rfl, fun u hu => ?_⟩
    simp at hu
    rcases hu with rfl | rfl | rfl | rfl | rfl | rfl <;> rfl
theorem own_rowQ {w : World} {base : Nat} {e : TypeId} {size n c : Nat} {A : Option Addr} {xs : List Value} (h : w.ownsRow base e size (.slice A n c) n xs) : RowQ w (fun b => base ≤ b ∧ b < w.heap.size) size A n xs := by
  refine ⟨h.1, fun hn => ?_⟩
  rcases h.2 with ⟨_, h0⟩ | ⟨g, cap, cur, hv, hb, hg, _⟩
  · omega
  · cases hv
    exact ⟨g, 0, rfl, ⟨hb, (Array.getElem?_eq_some_iff.1 hg).1⟩, fun j u hj => by rw [Nat.zero_add]; exact own_cell h hj⟩
/-- the result is written -/
def wrote (wr : World) (g : Nat) (a b c d e f : Value) : World := (((((wr.setCell ⟨g, 0, none⟩ a).setCell ⟨g, 1, none⟩ b).setCell ⟨g, 2, none⟩ c).setCell ⟨g, 3, none⟩ d).setCell ⟨g, 4, none⟩ e).setCell ⟨g, 5, none⟩ f
theorem wrote_block (wr : World) {g k : Nat} (h : k ≠ g) (a b c d e f : Value) : (wrote wr g a b c d e f).heap[k]? = wr.heap[k]? := by
  unfold wrote
  rw [Below.heap_setCell _ _ _ _ h, Below.heap_setCell _ _ _ _ h, Below.heap_setCell _ _ _ _ h, Below.heap_setCell _ _ _ _ h, Below.heap_setCell _ _ _ _ h, Below.heap_setCell _ _ _ _ h]
theorem wrote_size (wr : World) (g : Nat) (a b c d e f : Value) : (wrote wr g a b c d e f).heap.size = wr.heap.size := by simp [wrote, World.setCell]
theorem wrote_at {wr : World} {g : Nat} {z0 z1 z2 z3 z4 z5 : Value} {t : TypeId} (h : wr.heap[g]? = some (.cells #[z0, z1, z2, z3, z4, z5] t (0, 0))) (a b c d e f : Value) : (wrote wr g a b c d e f).heap[g]? = some (.cells #[a, b, c, d, e, f] t (0, 0)) :=
  heap_setCell_same _ g 5 _ t f (heap_setCell_same _ g 4 _ t e (heap_setCell_same _ g 3 _ t d (heap_setCell_same _ g 2 _ t c (heap_setCell_same _ g 1 _ t b (heap_setCell_same _ g 0 _ t a h)))))
theorem wrote_below {w wr : World} (hb : Below w.heap.size w wr) (a b c d e f : Value) : Below w.heap.size w (wrote wr w.heap.size a b c d e f) :=
  (((((hb.setCell (p := ⟨w.heap.size, 0, none⟩) (Nat.le_refl _) a).setCell (p := ⟨w.heap.size, 1, none⟩) (Nat.le_refl _) b).setCell (p := ⟨w.heap.size, 2, none⟩) (Nat.le_refl _) c).setCell (p := ⟨w.heap.size, 3, none⟩) (Nat.le_refl _) d).setCell (p := ⟨w.heap.size, 4, none⟩) (Nat.le_refl _) e).setCell (p := ⟨w.heap.size, 5, none⟩) (Nat.le_refl _) f
/-- one result, a struct in a variable -/
theorem results_cell1 {fn : Func} {p : Tmp} {ty : TypeId} (h : fn.results = #[.cell p ty]) (tmps : Array Value) (P : Program) (w : World) :
    (results fn tmps).run P w = ((asAddr (tmps.getD p undef)).run P w).andThen fun a w₁ => (loadVar ty a).run P w₁ := by
  simp only [results, h]
  simp [Sem.run_bind, Result.andThen]
theorem TC_form {w : World} {Q : Nat → Prop} {t : Bk.Tree} {cs : List Value} (h : TC w Q t cs) : ∃ (a b e : Int) (c d : List UInt8) (A : Option Addr) (n k : Nat), cs = [.int .i64 a, .int .i64 b, .string (bs c), .string (bs d), .int .i64 e, .slice A n k] := by
  cases t with
  | mk kd lv tx inf ln ks =>
    unfold TC at h
    obtain ⟨A, c, css, rfl, _⟩ := h
    exact ⟨_, _, _, _, _, _, _, _, rfl⟩
/-- no block with too many of its own -/
inductive Bk.Few : Bk.Tree → Prop where
  | mk {kd lv : Nat} {tx inf : List UInt8} {ln : Nat} {ks : List Bk.Tree} : ks.length ≤ 1000000000 → (∀ t ∈ ks, Bk.Few t) → Bk.Few (.mk kd lv tx inf ln ks)
theorem TC_length {w : World} {Q : Nat → Prop} {t : Bk.Tree} {cs : List Value} (h : TC w Q t cs) : cs.length = 6 := by
  obtain ⟨_, _, _, _, _, _, _, _, rfl⟩ := TC_form h; rfl
theorem TCs_at {w : World} {Q : Nat → Prop} : ∀ {ts : List Bk.Tree} {css : List (List Value)}, TCs w Q ts css → ∀ {k : Nat} (hk : k < ts.length), ∃ cs, TC w Q ts[k] cs ∧ ∀ j, j < 6 → css.flatten[k * 6 + j]? = cs[j]?
  | [], _, _, _, hk => by simp at hk
  | t :: ts, css, h, k, hk => by
    unfold TCs at h
    obtain ⟨c0, cr, rfl, h1, h2⟩ := h
    have hl := TC_length h1
    rcases k with _ | k
    · exact ⟨c0, h1, fun j hj => by rw [List.flatten_cons, List.getElem?_append_left (by omega)]; congr 1; omega⟩
    · obtain ⟨cs, h3, h4⟩ := TCs_at h2 (k := k) (by simpa using hk)
      refine ⟨cs, h3, fun j hj => ?_⟩
      rw [List.flatten_cons, List.getElem?_append_right (by omega), hl, show (k + 1) * 6 + j - 6 = k * 6 + j from by omega]
      exact h4 j hj
theorem kid_size {kd lv : Nat} {tx inf : List UInt8} {ln : Nat} {ks : List Bk.Tree} {k : Nat} (hk : k < ks.length) : SizeOf.sizeOf ks[k] < SizeOf.sizeOf (Bk.Tree.mk kd lv tx inf ln ks) := by
  have := List.sizeOf_lt_of_mem (List.getElem_mem hk)
  simp only [Bk.Tree.mk.sizeOf_spec]
  omega
/-- a row's cells of one element -/
theorem RowQ.six {w : World} {Q : Nat → Prop} {n : Nat} {A : Option Addr} {xs : List Value} (h : RowQ w Q 6 A n xs) (hn : 0 < n) : ∃ b o, A = some ⟨b, o, none⟩ ∧ Q b ∧ ∀ j u, xs[j]? = some u → w.cell? ⟨b, o + j, none⟩ = some u := h.2 hn

end
end Go.Proofs.YtmbcddehacfpgaaDoor

namespace Go.Proofs.YtmbcddehacfpgaaDoor
open Go.RowKit
attribute [local go_sem] canOp readsAs readUpon

/-- the line ahead of the k-th -/
def Pb.ahead (ks : List Bk.Tree) (ln : Nat) : Nat → Nat
  | 0 => ln
  | j + 1 => (ks[j]?.map Pb.tline).getD ln
theorem rts_at : ∀ {ks : List Bk.Tree} {kd n : Nat}, Pb.rts ks kd n → ∀ k (hk : k < ks.length), Pb.tkind ks[k] ≠ 0 ∧ Pb.rt ks[k] kd (Pb.ahead ks n k)
  | [], _, _, _, k, hk => by simp at hk
  | t :: ts, kd, n, h, k, hk => by
    obtain ⟨h1, h2, h3⟩ := Pb.rts_cons.1 h
    cases k with
    | zero => exact ⟨h1, h2⟩
    | succ k =>
      have hk' : k < ts.length := by simpa using hk
      obtain ⟨g1, g2⟩ := rts_at h3 k hk'
      refine ⟨by simpa using g1, ?_⟩
      have e : Pb.ahead (t :: ts) n (k + 1) = Pb.ahead ts (Pb.tline t) k := by
        cases k with
        | zero => rfl
        | succ j =>
          show ((t :: ts)[j + 1]?.map Pb.tline).getD n = (ts[j]?.map Pb.tline).getD (Pb.tline t)
          rw [List.getElem?_cons_succ, List.getElem?_eq_getElem (by omega)]
          rfl
      rw [e]
      simpa using g2

set_option maxHeartbeats 4000000 in
set_option maxRecDepth 100000 in
theorem treeRight_any : ∀ (N : Nat) (t : Bk.Tree) (_ : SizeOf.sizeOf t ≤ N) (_ : Bk.Few t) (inn line : Nat) (_ : Pb.rt t inn line) (cs : List Value) (w : World) (Q : Nat → Prop) (_ : ∀ b, Q b → b < w.heap.size) (_ : TC w Q t cs),
    Calls Tryd.prog 8 #[.agg cs.toArray, .int .i64 (inn : Int), .int .i64 (line : Int)] w fun e w' => e = .returned (.bool true) ∧ Below w.heap.size w w'
  | 0, t, hN, _, _, _, _, _, _, _, _, _ => by cases t; simp at hN
  | N + 1, t, hN, hF, inn, line, hRt, cs, w, Q, hQ, h1 => by
    have ih := treeRight_any N
    obtain ⟨kd, lv, tx, inf, ln, ks⟩ := t
    obtain ⟨hF1, hF2⟩ : ks.length ≤ 1000000000 ∧ ∀ t ∈ ks, Bk.Few t := by cases hF with | mk a b => exact ⟨a, b⟩
    unfold Pb.rt at hRt
    obtain ⟨g1, g2, g3, g4, g5, g6, g78⟩ := hRt
    have g7 := fun k hk => (rts_at g78 k hk).1
    have g8 := fun k hk => (rts_at g78 k hk).2
    clear g78
    unfold TC at h1
    obtain ⟨A1, k1, css, rfl, hc1, hr1, hs1⟩ := h1
    have hkz := fun k hk => @kid_size kd lv tx inf ln ks k hk
    obtain ⟨n, hn⟩ : ∃ n, ks.length = n := ⟨_, rfl⟩
    have g4' : 0 < n → (kd : Int) ≤ 3 := fun h => by have := g4 (by intro e; rw [e] at hn; simp at hn; omega); omega
    have g5' : (kd : Int) = 2 → 0 < n := fun h => by have := List.length_pos_iff.2 (g5 (by omega)); omega
    rw [hn] at hr1 hc1 ⊢
    have hkn := fun k (h : k < n) => (by rw [hn]; exact h : k < ks.length)
    rw [hn] at hF1
    clear hn
    have e1 : ((kd : Int) == 3) = ((inn : Int) == 2) := by
      rw [Bool.eq_iff_iff, beq_iff_eq, beq_iff_eq]; omega
    have e2 : (kd : Int) = 4 → (bs tx).toList.isEmpty = false := fun h => by
      have := g6 (by omega)
      rw [bs_toList]; simpa using this
    obtain ⟨w1, hw1⟩ : ∃ w1, (w.alloc (.cells #[.int .i64 (kd : Int), .int .i64 (lv : Int), .string (bs tx), .string (bs inf), .int .i64 (ln : Int), .slice A1 n k1] 31)) = w1 := ⟨_, rfl⟩
    have hwb : Below w.heap.size w w1 := by rw [← hw1]; exact ext_alloc w _
    have hwz : w1.heap.size = w.heap.size + 1 := by rw [← hw1]; simp
    have hwx : w1.heap[w.heap.size]? = some (.cells #[.int .i64 (kd : Int), .int .i64 (lv : Int), .string (bs tx), .string (bs inf), .int .i64 (ln : Int), .slice A1 n k1] 31) := by rw [← hw1]; exact heap_alloc_new w _
    have qx := cell_of hwx (j := 0) rfl
    have g9 : Pb.ahead ks ln 0 = ln := rfl
    have g10 : ∀ k (hk : k < ks.length), Pb.ahead ks ln (k + 1) = Pb.tline ks[k] := fun k hk => by show (ks[k]?.map Pb.tline).getD ln = _; rw [List.getElem?_eq_getElem hk]; rfl
    obtain ⟨L, hL⟩ : ∃ L, Pb.ahead ks ln = L := ⟨_, rfl⟩
    rw [hL] at g8 g9 g10
    replace g7 := Lib.hid g7
    replace g8 := Lib.hid g8
    replace g10 := Lib.hid g10
    replace hw1 := Lib.hid hw1
    replace hwx := Lib.hid hwx
    replace qx := Lib.hid qx
    clear g4 g5 g6 g1 hL
    go_enter Tryd.func8, Tryd.ntmps8
    go_wp2_with fail
    all_goals first | rw [hw1.out] | (have hh := hw1.out; rw [show (kd : Int) = 2 by assumption] at hh; rw [hh]; clear hh) | (have hh := hw1.out; rw [show (kd : Int) = 4 by assumption] at hh; rw [hh]; clear hh)
    all_goals try (have hz0 : ((n : Int) == 0) = false := by assumption
                   rw [hz0]
                   clear hz0)
    iterate 2
      focus
        go_loopw [7, 9, 67] (fun u _ v wr => ∃ k : Nat, k ≤ n ∧ u = .int .i64 (L k : Int) ∧ v = .int .i64 (k : Int) ∧ Hid (Below (w.heap.size + 1) w1 wr)) (fun _ _ v _ => n - (intOf v).toNat)
        case atStart => exact ⟨0, by omega, by rw [g9], rfl, Lib.hid (Below.refl _ _)⟩
        case round =>
          obtain ⟨k, hkk, rfl, rfl, hb⟩ := hrel
          rcases Nat.lt_or_eq_of_le hkk with hlt | rfl
          · have hk := hkn k hlt
            obtain ⟨c1, t1, a1⟩ := TCs_at hs1 hk
            obtain ⟨b1, o1, rfl, hb1, r1⟩ := hr1.six (by omega)
            have hz := hkz k hk
            have hG7 := g7.out k hk
            have hG8 := g8.out k hk
            have hG10 := g10.out k hk
            have hG2 := hF2 _ (List.getElem_mem hk)
            obtain ⟨T, hT⟩ : ∃ T, ks[k] = T := ⟨_, rfl⟩
            rw [hT] at t1 hz hG7 hG8 hG10 hG2
            have tt := t1
            obtain ⟨kd', lv', tx', inf', ln', ks'⟩ := T
            unfold TC at tt
            obtain ⟨A', k', css', rfl, _⟩ := tt
            have hG7' : ((kd' : Int) == 0) = false := by
              rw [beq_eq_false_iff_ne]; intro e; exact hG7 (by show kd' = 0; omega)
            replace hG10 : L (k + 1) = ln' := hG10
            have hl1 := hQ _ hb1
            have hbs := hb.out.size
            have hbw := hwb.trans (hb.out.mono (by omega))
            have x0 := (hbw.cell (p := ⟨b1, o1 + (k * 6 + 0), none⟩) hl1).trans (r1 _ _ (a1 0 (by omega)))
            have x1 := (hbw.cell (p := ⟨b1, o1 + (k * 6 + 1), none⟩) hl1).trans (r1 _ _ (a1 1 (by omega)))
            have x2 := (hbw.cell (p := ⟨b1, o1 + (k * 6 + 2), none⟩) hl1).trans (r1 _ _ (a1 2 (by omega)))
            have x3 := (hbw.cell (p := ⟨b1, o1 + (k * 6 + 3), none⟩) hl1).trans (r1 _ _ (a1 3 (by omega)))
            have x4 := (hbw.cell (p := ⟨b1, o1 + (k * 6 + 4), none⟩) hl1).trans (r1 _ _ (a1 4 (by omega)))
            have x5 := (hbw.cell (p := ⟨b1, o1 + (k * 6 + 5), none⟩) hl1).trans (r1 _ _ (a1 5 (by omega)))
            simp only [← Nat.add_assoc, Nat.add_zero] at x0 x1 x2 x3 x4 x5
            have X := (hb.out.cell (p := ⟨w.heap.size, 0, none⟩) (by show w.heap.size < _; omega)).trans qx.out
            have hza := ext_alloc wr (.cells #[.int .i64 (kd' : Int), .int .i64 (lv' : Int), .string (bs tx'), .string (bs inf'), .int .i64 (ln' : Int), .slice A' ks'.length k'] 31)
            have hzn := heap_alloc_new wr (.cells #[.int .i64 (kd' : Int), .int .i64 (lv' : Int), .string (bs tx'), .string (bs inf'), .int .i64 (ln' : Int), .slice A' ks'.length k'] 31)
            have X2 := (hza.cell (p := ⟨w.heap.size, 0, none⟩) (by show w.heap.size < _; omega)).trans X
            have hzb := hb.out.trans (hza.mono (by omega))
            have hzw := hwb.trans (hzb.mono (by omega))
            have hcall := ih _ (by omega) hG2 kd (L k) hG8 _ _ Q (fun b h => Nat.lt_of_lt_of_le (hQ b h) hzw.size) (TC_frame (w := w) (Q := Q) (Q' := Q) (fun b h => hzw.block b (hQ b h)) (fun _ h => h) t1)
            have hzz := hzb.size
            replace hcall := Lib.hid hcall
            replace hzb := Lib.hid hzb
            replace hzn := Lib.hid hzn
            replace hza := Lib.hid hza
            replace hbw := Lib.hid hbw
            replace hzw := Lib.hid hzw
            clear ih hkz hkn a1 r1 qx t1
            go_wp2_with fail
            have hq := hcall.out
            first | rw [show (kd : Int) = 2 by assumption] at hq | skip
            refine hq.mono ?_
            clear hq
            rintro e w8 ⟨rfl, hb8⟩
            have hb9 := Lib.hid (hzb.out.trans (hb8.mono (by omega)))
            have z4 := cell_of ((hb8.block wr.heap.size (by simp)).trans hzn.out) (j := 4) rfl
            clear X2 X x0 x1 x2 x3 x4 x5 hcall
            go_wp2_with fail
            go_roundw
            case rel => exact ⟨k + 1, by omega, by rw [hG10], by go_num, hb9⟩
            case measure => simp [intOf]; omega
          · go_wp2_with fail
            go_ret
            exact ⟨rfl, hwb.trans (hb.out.mono (by omega))⟩
    all_goals
      go_loopw [7, 9, 67] (fun u _ v wr => ∃ k : Nat, k ≤ n ∧ u = .int .i64 (L k : Int) ∧ v = .int .i64 (k : Int) ∧ Hid (Below (w.heap.size + 1) w1 wr)) (fun _ _ v _ => n - (intOf v).toNat)
      case atStart => exact ⟨0, by omega, by rw [g9], rfl, Lib.hid (Below.refl _ _)⟩
      case round =>
        obtain ⟨k, hkk, rfl, rfl, hb⟩ := hrel
        rcases Nat.lt_or_eq_of_le hkk with hlt | rfl
        · exfalso; omega
        · go_wp2_with fail
          go_ret
          exact ⟨rfl, hwb.trans (hb.out.mono (by omega))⟩
end Go.Proofs.YtmbcddehacfpgaaDoor

namespace Go.Proofs.YtmbcddehacfpgaaDoor
open Go.RowKit
attribute [local go_sem] canOp readsAs readUpon

theorem ret_int {a b : Int} (h : a = b) : Ending.returned (.int .i64 a) = .returned (.int .i64 b) := by rw [h]
theorem tmodW (n : Int) : -1073741824 ≤ n.tmod 1073741825 ∧ n.tmod 1073741825 ≤ 1073741824 := by
  rcases Int.le_total 0 n with h | h
  · rw [Int.tmod_eq_emod_of_nonneg h]; omega
  · rw [show n = -(-n) from by omega, Int.neg_tmod, Int.tmod_eq_emod_of_nonneg (by omega)]; omega

set_option maxHeartbeats 1000000 in
theorem within_any (x : Int) (w : World) :
    Calls Tryd.prog 15 #[.int .i64 x, .int .i64 0, .int .i64 1073741824] w fun e w' => (∃ r : Nat, e = .returned (.int .i64 (r : Int)) ∧ r ≤ 1073741824) ∧ w = w' := by
  have hm := tmodW x
  obtain ⟨q, hq⟩ : ∃ q, x.tmod 1073741825 = q := ⟨_, rfl⟩
  rw [hq] at hm
  go_enter Tryd.func15, Tryd.ntmps15
  rcases Int.lt_or_le x 0 with h0 | h0
  · rcases Int.lt_or_le q 0 with h2 | h2
    · go_wp2
      go_ret
      exact ⟨⟨(q + 1073741825).toNat, ret_int (by omega), by omega⟩, rfl⟩
    · go_wp2
      go_ret
      exact ⟨⟨q.toNat, ret_int (by omega), by omega⟩, rfl⟩
  · rcases Int.lt_or_le 1073741824 x with h1 | h1
    · rcases Int.lt_or_le q 0 with h2 | h2
      · go_wp2
        go_ret
        exact ⟨⟨(q + 1073741825).toNat, ret_int (by omega), by omega⟩, rfl⟩
      · go_wp2
        go_ret
        exact ⟨⟨q.toNat, ret_int (by omega), by omega⟩, rfl⟩
    · go_wp2
      go_ret
      exact ⟨⟨x.toNat, ret_int (by omega), by omega⟩, rfl⟩

/-- a tape in a block of its own; its numbers lie in older blocks -/
def TapeAt (w : World) (g : Nat) : Prop := ∃ (A : Option Addr) (n c k : Nat) (xs : List Int), w.heap[g]? = some (.cells #[.slice A n c, .int .i64 (k : Int)] 26 (0, 0)) ∧ k ≤ n ∧ n ≤ c ∧ n ≤ 9223372036854775807 ∧ Row w g 1 A n (xs.map fun x => .int .i64 x)
/-- all is as it was, a tape's block aside -/
def Aside (g : Nat) (w w' : World) : Prop := Below g w w' ∧ w.heap.size ≤ w'.heap.size ∧ ∀ k, k < w.heap.size → k ≠ g → w'.heap[k]? = w.heap[k]?
theorem Aside.refl (g : Nat) (w : World) : Aside g w w := ⟨Below.refl _ _, Nat.le_refl _, fun _ _ _ => rfl⟩
theorem Aside.trans {g : Nat} {a b c : World} (h : Aside g a b) (k : Aside g b c) : Aside g a c :=
  ⟨h.1.trans k.1, Nat.le_trans h.2.1 k.2.1, fun i hi hg => (k.2.2 i (by have := h.2.1; omega) hg).trans (h.2.2 i hi hg)⟩
theorem Aside.of_ext {g : Nat} {a b : World} (h : Below a.heap.size a b) (hg : g < a.heap.size) : Aside g a b :=
  ⟨h.mono (by omega), h.size, fun i hi _ => h.block i hi⟩
theorem Aside.drewN {g : Nat} {a b : World} (h : Aside g a b) (n : Nat) : Aside g a (b.drewN n) := ⟨below_drewN h.1 n, h.2.1, h.2.2⟩
theorem own_aside {g : Nat} {w w1 : World} {base : Nat} {e : TypeId} {size n : Nat} {v : Value} {xs : List Value} (h : w.ownsRow base e size v n xs) (hb : Aside g w w1) (hg : g < base) : w1.ownsRow base e size v n xs := by
  refine ⟨h.1, ?_⟩
  rcases h.2 with hn | ⟨g', cap, cur, rfl, hbg, hgg, rest⟩
  · exact .inl hn
  · exact .inr ⟨g', cap, cur, rfl, hbg, (hb.2.2 g' (Array.getElem?_eq_some_iff.1 hgg).1 (by omega)).trans hgg, rest⟩
theorem Aside.set {g : Nat} {a b : World} (h : Aside g a b) (j : Nat) (v : Value) : Aside g a (b.setCell ⟨g, j, none⟩ v) :=
  ⟨h.1.setCell (p := ⟨g, j, none⟩) (Nat.le_refl _) v, by simpa [World.setCell] using h.2.1, fun k hk hg => (Below.heap_setCell _ _ _ _ hg).trans (h.2.2 k hk hg)⟩
theorem TapeAt.lt {w : World} {g : Nat} (h : TapeAt w g) : g < w.heap.size := by
  obtain ⟨A, n, c, k, xs, h1, _⟩ := h
  exact (Array.getElem?_eq_some_iff.1 h1).1
theorem Row.upto {w w' : World} {B size n : Nat} {A : Option Addr} {xs : List Value} (h : Row w B size A n xs) (hb : Below B w w') : Row w' B size A n xs := h.below hb
theorem TapeAt.ext {w w' : World} {g : Nat} (h : TapeAt w g) (hb : Below w.heap.size w w') : TapeAt w' g := by
  have hg := h.lt
  obtain ⟨A, n, c, k, xs, h1, h2, h3, h4, h5⟩ := h
  exact ⟨A, n, c, k, xs, (hb.block g hg).trans h1, h2, h3, h4, h5.upto (hb.mono (by omega))⟩

set_option maxHeartbeats 2000000 in
set_option maxRecDepth 100000 in
theorem next_any (w : World) (g : Nat) (h : TapeAt w g) (n : Nat) (hn : n ≤ 1000000) :
    Calls Tryd.prog 11 #[.pointer (some ⟨g, 0, none⟩), .int .i64 (n : Int)] w fun e w' => ∃ r : Nat, e = .returned (.int .i64 (r : Int)) ∧ (r < n ∨ r = 0) ∧ TapeAt w' g ∧ Aside g w w' := by
  have hT := Lib.hid h
  obtain ⟨A, m, c, k, xs, h1, h2, h3, h4, h5⟩ := h
  have c0 := cell_of h1 (j := 0) rfl
  have c1 := cell_of h1 (j := 1) rfl
  have cf := blk_free h1
  have hglt : g < w.heap.size := (Array.getElem?_eq_some_iff.1 h1).1
  rcases Nat.lt_or_ge k m with hk | hk
  · have hki : (k : Int) < (m : Int) := by omega
    rcases Nat.lt_or_ge n 1 with hn1 | hn1
    · have hni : (n : Int) < 1 := by omega
      go_enter Tryd.func11, Tryd.ntmps11
      go_wp2_with fail
      go_quiet (fail)
      go_wp2_with fail
      go_ret
      exact ⟨0, rfl, .inr rfl, hT.out, (Aside.refl g w).drewN _⟩
    · have hni : (1 : Int) ≤ (n : Int) := by omega
      obtain ⟨b, o, rfl, hbB, hr⟩ := h5.2 (by omega)
      have hxl : xs.length = m := by have := h5.1; simpa using this
      obtain ⟨x, hx⟩ : ∃ x, xs[k]? = some x := ⟨_, List.getElem?_eq_getElem (by omega)⟩
      have hcx := hr k (.int .i64 x) (by rw [List.getElem?_map, hx]; rfl)
      have hn0 : (0 : Int) ≤ (n : Int) := by omega
      replace h1 := Lib.hid h1
      replace h5 := Lib.hid h5
      clear hr hx
      go_enter Tryd.func11, Tryd.ntmps11
      go_wp2_with fail
      go_quiet (fail)
      go_wp2_with fail
      have hq1 : ((w.drewN nq).setCell ⟨g, 1, none⟩ (.int .i64 ((k : Int) + 1))).drew.heap[g]? = some (.cells #[.slice (some ⟨b, o, none⟩) m c, .int .i64 (((k + 1 : Nat) : Int))] 26 (0, 0)) := heap_setCell_same _ g 1 _ _ (.int .i64 ((k : Int) + 1)) h1.out
      have hAs : Aside g w ((w.drewN nq).setCell ⟨g, 1, none⟩ (.int .i64 ((k : Int) + 1))).drew := ((Aside.refl g w).drewN nq).set 1 _ |>.drewN 1
      have hcx2 : ((w.drewN nq).setCell ⟨g, 1, none⟩ (.int .i64 ((k : Int) + 1))).drew.cell? ⟨b, o + k, none⟩ = some (.int .i64 x) := (hAs.1.cell (p := ⟨b, o + k, none⟩) hbB).trans hcx
      have hT2 : TapeAt ((w.drewN nq).setCell ⟨g, 1, none⟩ (.int .i64 ((k : Int) + 1))).drew g := ⟨_, m, c, k + 1, xs, hq1, by omega, h3, h4, h5.out.below hAs.1⟩
      have hS0 : (((w.drewN nq).setCell ⟨g, 1, none⟩ (.int .i64 ((k : Int) + 1))).drew.cell? ⟨g, 0, none⟩ = some (.slice (some ⟨b, o, none⟩) m c) ∧ ((w.drewN nq).setCell ⟨g, 1, none⟩ (.int .i64 ((k : Int) + 1))).drew.cell? ⟨g, 1, none⟩ = some (.int .i64 ((k : Int) + 1)) ∧ ((w.drewN nq).setCell ⟨g, 1, none⟩ (.int .i64 ((k : Int) + 1))).drew.cell? ⟨b, o + k, none⟩ = some (.int .i64 x)) := ⟨cell_of hq1 (j := 0) rfl, cell_of hq1 (j := 1) rfl, hcx2⟩
      have hwk : IntKind.i64.wrap (k : Int) = (k : Int) := by rw [IntKind.wrap_i64]; omega
      have hkm : ¬ ((m : Int) ≤ (k : Int)) := by omega
      replace hT2 := Lib.hid hT2
      replace hAs := Lib.hid hAs
      clear hq1 hcx2 c0 c1 cf hcx
      refine wp_region_can [(true, 0), (true, 1), (true, 2), (true, 3), (true, 4), (true, 5), (true, 6), (true, 7), (true, 8), (true, 9), (true, 10), (true, 12), (false, 11), (true, 13), (true, 14)] (fun u => u.cell? ⟨g, 0, none⟩ = some (.slice (some ⟨b, o, none⟩) m c) ∧ u.cell? ⟨g, 1, none⟩ = some (.int .i64 ((k : Int) + 1)) ∧ u.cell? ⟨b, o + k, none⟩ = some (.int .i64 x)) hS0 (by kernel_rfl) (by kernel_rfl) (by kernel_rfl) (fun _ _ d _ _ h => by cases d <;> exact h) ?_
      generalize ((w.drewN nq).setCell ⟨g, 1, none⟩ (.int .i64 ((k : Int) + 1))).drew = w3 at hT2 hAs hS0 ⊢
      repeat (first | refine wpCan_move rfl ?_ | (refine wpCan_cons rfl ?_; intro K hK; go_simp; refine hK _ _ _ ?_; clear hK K))
      refine wpCan_read (.slice (some ⟨b, o, none⟩) m c) rfl rfl hS0 (fun u hu => by obtain ⟨k0, k1, k2⟩ := hu; go_simp) ?_
      repeat (first | refine wpCan_move rfl ?_ | (refine wpCan_cons rfl ?_; intro K hK; go_simp; refine hK _ _ _ ?_; clear hK K))
      refine wpCan_read (.int .i64 ((k : Int) + 1)) rfl rfl hS0 (fun u hu => by obtain ⟨k0, k1, k2⟩ := hu; go_simp) ?_
      repeat (first | refine wpCan_move rfl ?_ | (refine wpCan_cons rfl ?_; intro K hK; go_simp; refine hK _ _ _ ?_; clear hK K))
      refine wpCan_read (.int .i64 x) rfl rfl hS0 (fun u hu => by obtain ⟨k0, k1, k2⟩ := hu; go_simp) ?_
      repeat (first | refine wpCan_move rfl ?_ | (refine wpCan_cons rfl ?_; intro K hK; go_simp; refine hK _ _ _ ?_; clear hK K))
      refine wpCan_cons rfl ?_
      intro K hK
      go_simp
      refine (within_any x w3).mono ?_
      rintro e w4 ⟨⟨r, rfl, hr9⟩, rfl⟩
      refine can_same hS0 (hK _ _ _ ?_)
      clear hK K
      obtain ⟨r2, hr2, hr3⟩ : ∃ r2 : Nat, (r : Int).tmod (n : Int) = (r2 : Int) ∧ r2 < n := ⟨r % n, by rw [Int.tmod_eq_emod_of_nonneg (by omega)]; omega, Nat.mod_lt _ (by omega)⟩
      have hnz : ¬ (n = 0) := by omega
      repeat (first | refine wpCan_move rfl ?_ | (refine wpCan_cons rfl ?_; intro K hK; go_simp; refine hK _ _ _ ?_; clear hK K))
      refine wpCan_nil ?_
      go_wp2_with fail
      go_ret
      exact ⟨r2, rfl, .inl hr3, hT2.out, hAs.out⟩
  · obtain rfl : k = m := by omega
    go_enter Tryd.func11, Tryd.ntmps11
    go_wp2_with fail
    go_quiet (fail)
    go_wp2_with fail
    go_ret
    exact ⟨0, rfl, .inr rfl, hT.out, (Aside.refl g w).drewN _⟩
end Go.Proofs.YtmbcddehacfpgaaDoor

namespace Go.Proofs.YtmbcddehacfpgaaDoor
open Go.RowKit
attribute [local go_sem] canOp readsAs readUpon

def shortV (n : Nat) : Value → Bool
  | .string b => decide (b.size ≤ n)
  | _ => false
theorem shortV_spec {n : Nat} {v : Value} (h : shortV n v = true) : ∃ t, v = .string (bs t) ∧ t.length ≤ n := by
  cases v with
  | string b =>
    refine ⟨b.data.toList, rfl, ?_⟩
    have : b.size ≤ n := of_decide_eq_true h
    simpa using this
  | _ => cases h
theorem lit_short {w : World} {q n : Nat} {l : List Value} {t : TypeId} {fr : Nat × Nat} (h : w.heap[q]? = some (.cells ⟨l⟩ t fr)) (ha : l.all (shortV n) = true) {j : Nat} (hj : j < l.length) : ∃ s, w.cell? ⟨q, j, none⟩ = some (.string (bs s)) ∧ s.length ≤ n := by
  obtain ⟨s, h1, h2⟩ := shortV_spec (List.all_eq_true.1 ha l[j] (List.getElem_mem hj))
  exact ⟨s, cell_of h (by rw [List.getElem?_eq_getElem hj, h1]), h2⟩
theorem next_of (w : World) (g : Nat) (h : TapeAt w g) (n : Nat) (hn : n ≤ 1000000) (N : Int) (hN : N = (n : Int)) :
    Calls Tryd.prog 11 #[.pointer (some ⟨g, 0, none⟩), .int .i64 N] w fun e w' => ∃ r : Nat, e = .returned (.int .i64 (r : Int)) ∧ (r < n ∨ r = 0) ∧ TapeAt w' g ∧ Aside g w w' := by
  subst hN
  exact next_any w g h n hn
/-- a literal row of texts, one of which is taken by the tape's next number -/
theorem next_lit (w : World) (g : Nat) (h : TapeAt w g) (l : List Value) (t : TypeId) (m n : Nat) (hl : l.length = n) (hn0 : 0 < n) (hn : n ≤ 1000000) (ha : l.all (shortV m) = true) (N : Int) (hN : N = (n : Int)) :
    Calls Tryd.prog 11 #[.pointer (some ⟨g, 0, none⟩), .int .i64 N] (w.alloc (.cells ⟨l⟩ t)) fun e w' => ∃ (r : Nat) (s : List UInt8), e = .returned (.int .i64 (r : Int)) ∧ r < n ∧ w'.cell? ⟨w.heap.size, r, none⟩ = some (.string (bs s)) ∧ s.length ≤ m ∧ TapeAt w' g ∧ Aside g w w' := by
  refine (next_of _ g (h.ext (ext_alloc w _)) n hn N hN).mono ?_
  rintro e w' ⟨r, rfl, hr, hT, hA⟩
  have hg := h.lt
  have hrn : r < n := by omega
  obtain ⟨s, h1, h2⟩ := lit_short (heap_alloc_new w (.cells ⟨l⟩ t)) ha (j := r) (by omega)
  exact ⟨r, s, rfl, hrn, by rw [World.cell?_of_block (hA.2.2 w.heap.size (by simp) (by show w.heap.size ≠ g; omega))]; exact h1, h2, hT, (Aside.of_ext (ext_alloc w _) hg).trans hA⟩

set_option maxHeartbeats 2000000 in
set_option maxRecDepth 100000 in
theorem word_any (w : World) (g : Nat) (h : TapeAt w g) :
    Calls Tryd.prog 16 #[.pointer (some ⟨g, 0, none⟩)] w fun e w' => ∃ s : List UInt8, e = .returned (.string (bs s)) ∧ s.length ≤ 10 ∧ TapeAt w' g ∧ Aside g w w' := by
  have hN := fun l t hl ha => next_lit w g h l t 10 32 hl (by omega) (by omega) ha 32 rfl
  replace hN := Lib.hid hN
  go_enter Tryd.func16, Tryd.ntmps16
  go_wp2_with fail
  refine (hN.out _ _ (by kernel_rfl) (by kernel_rfl)).mono ?_
  rintro e w1 ⟨r, s, rfl, hr, hc, hs, hT, hA⟩
  have hr0 : (0 : Int) ≤ (r : Int) := by omega
  have hr1 : (r : Int) < 32 := by omega
  replace hT := Lib.hid hT
  replace hA := Lib.hid hA
  go_wp2_with fail
  go_ret
  exact ⟨s, rfl, hs, hT.out, hA.out⟩

set_option maxHeartbeats 2000000 in
set_option maxRecDepth 100000 in
theorem end_any (w : World) (g : Nat) (h : TapeAt w g) (k : Nat) :
    Calls Tryd.prog 13 #[.pointer (some ⟨g, 0, none⟩), .int .i64 (k : Int)] w fun e w' => ∃ s : List UInt8, e = .returned (.string (bs s)) ∧ s.length ≤ 10 ∧ TapeAt w' g ∧ Aside g w w' := by
  have hN := fun l t hl ha => next_lit w g h l t 10 3 hl (by omega) (by omega) ha 3 rfl
  replace hN := Lib.hid hN
  go_enter Tryd.func13, Tryd.ntmps13
  rcases Nat.eq_zero_or_pos k with rfl | hk
  · go_wp2_with fail
    go_ret
    exact ⟨[10], rfl, by decide, h, Aside.refl _ _⟩
  · have hk1 : ((k : Int) == 0) = false := by rw [beq_eq_false_iff_ne]; omega
    go_wp2_with fail
    refine (hN.out _ _ (by kernel_rfl) (by kernel_rfl)).mono ?_
    rintro e w1 ⟨r, s, rfl, hr, hc, hs, hT, hA⟩
    have hr0 : (0 : Int) ≤ (r : Int) := by omega
    have hr1 : (r : Int) < 3 := by omega
    replace hT := Lib.hid hT
    replace hA := Lib.hid hA
    go_wp2_with fail
    go_ret
    exact ⟨s, rfl, hs, hT.out, hA.out⟩
end Go.Proofs.YtmbcddehacfpgaaDoor

namespace Go.Proofs.YtmbcddehacfpgaaDoor
open Go.RowKit
attribute [local go_sem] canOp readsAs readUpon

theorem str_out {b : ByteArray} {n : Nat} {P : Prop} (h : b.size ≤ n) (hp : P) : ∃ s : List UInt8, Ending.returned (.string b) = .returned (.string (bs s)) ∧ s.length ≤ n ∧ P := ⟨b.data.toList, rfl, by simpa using h, hp⟩
set_option maxHeartbeats 8000000 in
set_option maxRecDepth 100000 in
theorem line_of_any (w : World) (g : Nat) (h : TapeAt w g) :
    Calls Tryd.prog 12 #[.pointer (some ⟨g, 0, none⟩)] w fun e w' => ∃ s : List UInt8, e = .returned (.string (bs s)) ∧ s.length ≤ 100 ∧ TapeAt w' g ∧ Aside g w w' := by
  have hN := fun l t hl ha => next_lit w g h l t 10 16 hl (by omega) (by omega) ha 16 rfl
  replace hN := Lib.hid hN
  go_enter Tryd.func12, Tryd.ntmps12
  go_wp2_with fail
  refine (hN.out _ _ (by kernel_rfl) (by kernel_rfl)).mono ?_
  rintro e w1 ⟨r1, s1, rfl, hr1, hc1, hs1, hT1, hA1⟩
  have z1 := bs_size s1
  have hr10 : (0 : Int) ≤ (r1 : Int) := by omega
  have hr11 : (r1 : Int) < 16 := by omega
  replace hT1 := Lib.hid hT1
  replace hA1 := Lib.hid hA1
  go_wp2_with fail
  refine (next_of w1 g hT1.out 14 (by omega) 14 rfl).mono ?_
  rintro e w2 ⟨r2, rfl, hr2, hT2, hA2⟩
  have hA := hA1.out.trans hA2
  replace hT2 := Lib.hid hT2
  replace hA := Lib.hid hA
  have hr2' : r2 < 14 := by omega
  clear hr2 hT1 hA1 hA2 hc1 hN
  have l6 := fun l t hl ha => next_lit w2 g hT2.out l t 20 6 hl (by omega) (by omega) ha 6 rfl
  have l7 := fun l t hl ha => next_lit w2 g hT2.out l t 20 7 hl (by omega) (by omega) ha 7 rfl
  have l3 := fun l t hl ha => next_lit w2 g hT2.out l t 20 3 hl (by omega) (by omega) ha 3 rfl
  replace l6 := Lib.hid l6
  replace l7 := Lib.hid l7
  replace l3 := Lib.hid l3
  obtain rfl | rfl | rfl | rfl | rfl | rfl | rfl | hge : r2 = 0 ∨ r2 = 1 ∨ r2 = 2 ∨ r2 = 3 ∨ r2 = 4 ∨ r2 = 5 ∨ r2 = 6 ∨ 7 ≤ r2 := by omega
  · go_wp2_with fail
    go_ret
    exact ⟨s1, rfl, by omega, hT2.out, hA.out⟩
  · go_wp2_with fail
    refine (word_any w2 g hT2.out).mono ?_
    rintro e w3 ⟨s2, rfl, hs2, hT3, hA3⟩
    have hA' := Lib.hid (hA.out.trans hA3)
    have z2 := bs_size s2
    replace hT3 := Lib.hid hT3
    clear hA3
    go_wp2_with fail
    go_ret
    refine str_out ?_ ⟨hT3.out, hA'.out⟩
    simp only [ByteArray.size_append, z1, z2]; (try simp [ByteArray.size]); omega
  · go_wp2_with fail
    refine (l6.out _ _ (by kernel_rfl) (by kernel_rfl)).mono ?_
    rintro e w3 ⟨r3, s2, rfl, hr3, hc3, hs2, hT3, hA3⟩
    have hr30 : (0 : Int) ≤ (r3 : Int) := by omega
    have hr31 : (r3 : Int) < 6 := by omega
    have hA' := Lib.hid (hA.out.trans hA3)
    have z2 := bs_size s2
    replace hT3 := Lib.hid hT3
    clear hA3
    go_wp2_with fail
    go_ret
    refine str_out ?_ ⟨hT3.out, hA'.out⟩
    simp only [ByteArray.size_append, z1, z2]; (try simp [ByteArray.size]); omega
  · go_wp2_with fail
    refine (l7.out _ _ (by kernel_rfl) (by kernel_rfl)).mono ?_
    rintro e w3 ⟨r3, s2, rfl, hr3, hc3, hs2, hT3, hA3⟩
    have hr30 : (0 : Int) ≤ (r3 : Int) := by omega
    have hr31 : (r3 : Int) < 7 := by omega
    have hA' := Lib.hid (hA.out.trans hA3)
    have z2 := bs_size s2
    replace hT3 := Lib.hid hT3
    clear hA3
    go_wp2_with fail
    go_ret
    refine str_out ?_ ⟨hT3.out, hA'.out⟩
    simp only [ByteArray.size_append, z1, z2]; (try simp [ByteArray.size]); omega
  · go_wp2_with fail
    refine (l7.out _ _ (by kernel_rfl) (by kernel_rfl)).mono ?_
    rintro e w3 ⟨r3, s2, rfl, hr3, hc3, hs2, hT3, hA3⟩
    have hr30 : (0 : Int) ≤ (r3 : Int) := by omega
    have hr31 : (r3 : Int) < 7 := by omega
    have hA' := Lib.hid (hA.out.trans hA3)
    have z2 := bs_size s2
    replace hT3 := Lib.hid hT3
    clear hA3
    go_wp2_with fail
    go_ret
    refine str_out ?_ ⟨hT3.out, hA'.out⟩
    simp only [ByteArray.size_append, z1, z2]; (try simp [ByteArray.size]); omega
  · go_wp2_with fail
    refine (l6.out _ _ (by kernel_rfl) (by kernel_rfl)).mono ?_
    rintro e w3 ⟨r3, s2, rfl, hr3, hc3, hs2, hT3, hA3⟩
    have hr30 : (0 : Int) ≤ (r3 : Int) := by omega
    have hr31 : (r3 : Int) < 6 := by omega
    have hA' := Lib.hid (hA.out.trans hA3)
    have z2 := bs_size s2
    replace hT3 := Lib.hid hT3
    clear hA3
    go_wp2_with fail
    go_ret
    refine str_out ?_ ⟨hT3.out, hA'.out⟩
    simp only [ByteArray.size_append, z1, z2]; (try simp [ByteArray.size]); omega
  · go_wp2_with fail
    refine (l3.out _ _ (by kernel_rfl) (by kernel_rfl)).mono ?_
    rintro e w3 ⟨r3, s2, rfl, hr3, hc3, hs2, hT3, hA3⟩
    have hr30 : (0 : Int) ≤ (r3 : Int) := by omega
    have hr31 : (r3 : Int) < 3 := by omega
    have hA' := Lib.hid (hA.out.trans hA3)
    have z2 := bs_size s2
    replace hT3 := Lib.hid hT3
    clear hA3
    go_wp2_with fail
    go_ret
    refine str_out ?_ ⟨hT3.out, hA'.out⟩
    simp only [ByteArray.size_append, z1, z2]; (try simp [ByteArray.size]); omega
  · have e0 : ((r2 : Int) == 0) = false := by rw [beq_eq_false_iff_ne]; omega
    have e1 : ((r2 : Int) == 1) = false := by rw [beq_eq_false_iff_ne]; omega
    have e2 : ((r2 : Int) == 2) = false := by rw [beq_eq_false_iff_ne]; omega
    have e3 : ((r2 : Int) == 3) = false := by rw [beq_eq_false_iff_ne]; omega
    have e4 : ((r2 : Int) == 4) = false := by rw [beq_eq_false_iff_ne]; omega
    have e5 : ((r2 : Int) == 5) = false := by rw [beq_eq_false_iff_ne]; omega
    have e6 : ((r2 : Int) == 6) = false := by rw [beq_eq_false_iff_ne]; omega
    go_wp2_with fail
    refine (word_any w2 g hT2.out).mono ?_
    rintro e w3 ⟨s2, rfl, hs2, hT3, hA3⟩
    have hA' := Lib.hid (hA.out.trans hA3)
    have z2 := bs_size s2
    replace hT3 := Lib.hid hT3
    clear hA3
    go_wp2_with fail
    refine (word_any w3 g hT3.out).mono ?_
    rintro e w4 ⟨s3, rfl, hs3, hT4, hA4⟩
    have hA'' := Lib.hid (hA'.out.trans hA4)
    have z3 := bs_size s3
    replace hT4 := Lib.hid hT4
    clear hA4
    go_wp2_with fail
    go_ret
    refine str_out ?_ ⟨hT4.out, hA''.out⟩
    simp only [ByteArray.size_append, z1, z2, z3]; (try simp [ByteArray.size]); omega
end Go.Proofs.YtmbcddehacfpgaaDoor

namespace Go.Proofs.YtmbcddehacfpgaaDoor
open Go.RowKit

theorem TapeAt.below {w w' : World} {g : Nat} (h : TapeAt w g) (hb : Below (g + 1) w w') : TapeAt w' g := by
  obtain ⟨A, n, c, k, xs, h1, h2, h3, h4, h5⟩ := h
  exact ⟨A, n, c, k, xs, (hb.block g (by omega)).trans h1, h2, h3, h4, h5.upto (hb.mono (by omega))⟩

set_option maxHeartbeats 4000000 in
set_option maxRecDepth 100000 in
theorem markdown_any (w : World) (g : Nat) (h : TapeAt w g) (most : Nat) (hm : most ≤ 1000) (M : Int) (hM : M = (most : Int)) :
    Calls Tryd.prog 6 #[.pointer (some ⟨g, 0, none⟩), .int .i64 M] w fun e w' => ∃ (v : Value) (l : List UInt8), e = .returned v ∧ w'.ownsRow (g + 1) 5 1 v l.length (bcells l) ∧ l.length ≤ most * 200 ∧ TapeAt w' g ∧ Below g w w' := by
  subst hM
  have hglt := h.lt
  go_enter Tryd.func6, Tryd.ntmps6
  go_wp2_with fail
  refine (next_of w g h 2 (by omega) 2 rfl).mono ?_
  rintro e w1 ⟨kd, rfl, _, hT1, hA1⟩
  go_wp2_with fail
  refine (next_of w1 g hT1 (most + 1) (by omega) ((most : Int) + 1) (by omega)).mono ?_
  rintro e w2 ⟨n, rfl, hn, hT2, hA2⟩
  have hA := hA1.trans hA2
  have hB2 := Lib.hid hA.1
  have hg2 := hT2.lt
  replace hT2 := Lib.hid hT2
  have hnm : n ≤ most := by omega
  clear hn hT1 hA1 hA2 hA
  go_wp2_with fail
  go_loopw [5, 7] (fun v nv wr => ∃ (k : Nat) (l : List UInt8), nv = .int .i64 (k : Int) ∧ k ≤ most ∧ l.length + k * 200 ≤ most * 200 ∧ Hid (wr.ownsRow (g + 1) 5 1 v l.length (bcells l)) ∧ Hid (TapeAt wr g) ∧ Hid (Below g w wr)) (fun _ nv _ => (intOf nv).toNat)
  case atStart => exact ⟨n, [], rfl, hnm, by simp; omega, Lib.hid ⟨rfl, .inl ⟨rfl, rfl⟩⟩, hT2, hB2⟩
  case round =>
    obtain ⟨k, l, rfl, hk, hl, hown, hT, hB⟩ := hrel
    obtain ⟨vA, vc, rfl, hvc⟩ := own_shape hown.out
    rcases Nat.eq_zero_or_pos k with rfl | hkp
    · go_wp2_with fail
      go_ret
      exact ⟨_, l, rfl, hown.out, by omega, hT.out, hB.out⟩
    · have hk0 : (0 : Int) < (k : Int) := by omega
      have hlt := hT.out.lt
      go_wp2_with fail
      refine (line_of_any wr g hT.out).mono ?_
      rintro e w3 ⟨s1, rfl, hs1, hT3, hA3⟩
      have hown3 := own_aside hown.out hA3 (by omega)
      have hB3 := Lib.hid (hB.out.trans hA3.1)
      have hlt3 := hT3.lt
      replace hT3 := Lib.hid hT3
      clear hA3
      go_wp2_with (at_builtin; refine wpList_app_text rfl (.tmp 18) (.tmp 20) rfl byteEI byteZ Tryd.underlying9 rfl hown3 rfl (by omega) (by omega) ?_; intro v1 w4 hown4 hg4 hb4)
      have hT4 := hT3.out.below hb4
      have hB4 := Lib.hid (hB3.out.trans (hb4.mono (by omega)))
      clear hg4 hb4
      refine (end_any w4 g hT4 kd).mono ?_
      rintro e w5 ⟨s2, rfl, hs2, hT5, hA5⟩
      have hown5 := own_aside hown4 hA5 (by omega)
      have hB5 := Lib.hid (hB4.out.trans hA5.1)
      have hlt5 := hT5.lt
      replace hT5 := Lib.hid hT5
      have hll : (l ++ s1).length = l.length + s1.length := by simp
      rw [← hll] at hown5
      clear hA5 hown3 hown4 hT4
      go_wp2_with (at_builtin; refine wpList_app_text rfl (.tmp 21) (.tmp 24) rfl byteEI byteZ Tryd.underlying9 rfl hown5 rfl (by omega) (by omega) ?_; intro v2 w6 hown6 hg6 hb6)
      have hT6 := Lib.hid (hT5.out.below hb6)
      have hB6 := Lib.hid (hB5.out.trans (hb6.mono (by omega)))
      have hll2 : ((l ++ s1) ++ s2).length = (l ++ s1).length + s2.length := List.length_append
      rw [← hll2] at hown6
      go_roundw
      case rel => exact ⟨k - 1, (l ++ s1) ++ s2, congrArg (Value.int .i64) (by omega), by omega, by omega, Lib.hid hown6, hT6, hB6⟩
      case measure => simp [intOf]; omega
end Go.Proofs.YtmbcddehacfpgaaDoor
