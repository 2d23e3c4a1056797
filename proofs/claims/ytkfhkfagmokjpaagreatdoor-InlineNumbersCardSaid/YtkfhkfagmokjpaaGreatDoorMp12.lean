/- Trees of inlines, as they lie in memory. No function of the program is spoken of here. Runs that stress and their pairs, as cells; the document's own 'held' and 'fits'. The document's own pairs of runs: the nearest run ahead that opens. The document's own pairs of runs: what lies between the two has none left. The document's own pairs of runs: two have fewer left. The document's own pairs of runs: one that closes, all its pairs. The document's own pairs of runs. Literals of inlines, as they lie in memory. No function of the program is spoken of here. The document's own judging of a run: its answer as a value. The document's own judging of a run: what it hands back. The document's own judging of a run: region by region. The program's pairs of runs: as lists, as memory; which two fit. -/
import Derived.Test.YtkfhkfagmokjpaaGreatDoorMp11
import Derived.Test.YtkfhkfagmokjpaaGreatDoorMp04
import Derived.Test.YtkfhkfagmokjpaaGreatDoorMp05
import Derived.Laws.ResultCell
import Derived.Deep.QuietTactic
import Derived.BigQuiet
import Derived.Laws.OwnMore
import Derived.Test.YtkfhkfagmokjpaaGreatDoorMp02
import Derived.BigRegion
namespace Go.Proofs.YtkfhkfagmokjpaaGreatDoor
open Go.RowKit

/-- a row's cell -/
theorem il_own_cell {w : World} {B : Nat} {e : TypeId} {size n g c : Nat} {xs : List Value} (h : w.ownsRow B e size (.slice (some ⟨g, 0, none⟩) n c) n xs) {j : Nat} {u : Value} (hj : xs[j]? = some u) : w.cell? ⟨g, j, none⟩ = some u := by
  have := World.ownsRow.cells h (g := g) rfl j u hj
  rwa [show (⟨g, 0, none⟩ : Addr).add j = ⟨g, j, none⟩ from by unfold Addr.add; split <;> simp_all] at this
/-- a row in a block that is allowed -/
def RowI (w : World) (Q : Nat → Prop) (size : Nat) (A : Option Addr) (n : Nat) (xs : List Value) : Prop :=
  xs.length = n * size ∧ (0 < n → ∃ b o, A = some ⟨b, o, none⟩ ∧ Q b ∧ ∀ j u, xs[j]? = some u → w.cell? ⟨b, o + j, none⟩ = some u)
mutual
/-- an inline's cells, its rows in blocks that are allowed -/
def IC (w : World) (Q : Nat → Prop) : Il.In → List Value → Prop
  | .mk kd t d ks, cs => ∃ A c css, cs = [.int .i64 (kd : Int), .string (bs t), .string (bs d), .slice A ks.length c] ∧ ks.length ≤ c ∧ RowI w Q 4 A ks.length css.flatten ∧ ICs w Q ks css
def ICs (w : World) (Q : Nat → Prop) : List Il.In → List (List Value) → Prop
  | [], css => css = []
  | t :: ts, css => ∃ c0 cr, css = c0 :: cr ∧ IC w Q t c0 ∧ ICs w Q ts cr
end
theorem RowI.frame {w w' : World} {Q Q' : Nat → Prop} {size n : Nat} {A : Option Addr} {xs : List Value} (h : RowI w Q size A n xs) (hf : ∀ b, Q b → w'.heap[b]? = w.heap[b]?) (hq : ∀ b, Q b → Q' b) : RowI w' Q' size A n xs := by
  refine ⟨h.1, fun hn => ?_⟩
  obtain ⟨b, o, hA, hb, hc⟩ := h.2 hn
  exact ⟨b, o, hA, hq b hb, fun j u hj => by rw [World.cell?_of_block (hf b hb)]; exact hc j u hj⟩
mutual
theorem IC_frame {w w' : World} {Q Q' : Nat → Prop} (hf : ∀ b, Q b → w'.heap[b]? = w.heap[b]?) (hq : ∀ b, Q b → Q' b) : ∀ {t : Il.In} {cs : List Value}, IC w Q t cs → IC w' Q' t cs
  | .mk .., _, h => by
    unfold IC at h ⊢
    obtain ⟨A, c, css, h1, h2, h3, h4⟩ := h
    exact ⟨A, c, css, h1, h2, h3.frame hf hq, ICs_frame hf hq h4⟩
theorem ICs_frame {w w' : World} {Q Q' : Nat → Prop} (hf : ∀ b, Q b → w'.heap[b]? = w.heap[b]?) (hq : ∀ b, Q b → Q' b) : ∀ {ts : List Il.In} {css : List (List Value)}, ICs w Q ts css → ICs w' Q' ts css
  | [], _, h => by unfold ICs at h ⊢; exact h
  | _ :: _, _, h => by
    unfold ICs at h ⊢
    obtain ⟨c0, cr, h1, h2, h3⟩ := h
    exact ⟨c0, cr, h1, IC_frame hf hq h2, ICs_frame hf hq h3⟩
end
theorem ICs_nil {w : World} {Q : Nat → Prop} : ICs w Q [] [] := by unfold ICs; rfl
theorem ICs_snoc {w : World} {Q : Nat → Prop} {ts : List Il.In} {css : List (List Value)} {t : Il.In} {cs : List Value} (h : ICs w Q ts css) (h2 : IC w Q t cs) : ICs w Q (ts ++ [t]) (css ++ [cs]) := by
  induction ts generalizing css with
  | nil =>
    unfold ICs at h
    subst h
    rw [List.nil_append, List.nil_append]
    unfold ICs
    exact ⟨cs, [], rfl, h2, ICs_nil⟩
  | cons x r ih =>
    unfold ICs at h
    obtain ⟨c0, cr, rfl, h3, h4⟩ := h
    rw [List.cons_append, List.cons_append]
    unfold ICs
    exact ⟨c0, cr ++ [cs], rfl, h3, ih h4⟩
theorem IC_form {w : World} {Q : Nat → Prop} {kd : Nat} {t d : List UInt8} {ks : List Il.In} {cs : List Value} (h : IC w Q (.mk kd t d ks) cs) : ∃ (A : Option Addr) (c : Nat) (css : List (List Value)), cs = [.int .i64 (kd : Int), .string (bs t), .string (bs d), .slice A ks.length c] ∧ ks.length ≤ c ∧ RowI w Q 4 A ks.length css.flatten ∧ ICs w Q ks css := by
  unfold IC at h; exact h
theorem IC_length {w : World} {Q : Nat → Prop} {t : Il.In} {cs : List Value} (h : IC w Q t cs) : cs.length = 4 := by
  cases t with
  | mk kd tx d ks => obtain ⟨_, _, _, rfl, _⟩ := IC_form h; rfl
theorem ICs_length {w : World} {Q : Nat → Prop} : ∀ {ts : List Il.In} {css : List (List Value)}, ICs w Q ts css → css.flatten.length = ts.length * 4
  | [], css, h => by unfold ICs at h; subst h; rfl
  | t :: ts, css, h => by
    unfold ICs at h
    obtain ⟨c0, cr, rfl, h1, h2⟩ := h
    rw [List.flatten_cons, List.length_append, IC_length h1, ICs_length h2, List.length_cons]; omega
theorem ICs_at {w : World} {Q : Nat → Prop} : ∀ {ts : List Il.In} {css : List (List Value)}, ICs w Q ts css → ∀ {k : Nat} (hk : k < ts.length), ∃ cs, IC w Q ts[k] cs ∧ ∀ j, j < 4 → css.flatten[k * 4 + j]? = cs[j]?
  | [], _, _, _, hk => by simp at hk
  | t :: ts, css, h, k, hk => by
    unfold ICs at h
    obtain ⟨c0, cr, rfl, h1, h2⟩ := h
    have hl := IC_length h1
    rcases k with _ | k
    · exact ⟨c0, h1, fun j hj => by rw [List.flatten_cons, List.getElem?_append_left (by omega)]; congr 1; omega⟩
    · obtain ⟨cs, h3, h4⟩ := ICs_at h2 (k := k) (by simpa using hk)
      refine ⟨cs, h3, fun j hj => ?_⟩
      rw [List.flatten_cons, List.getElem?_append_right (by omega), hl, show (k + 1) * 4 + j - 4 = k * 4 + j from by omega]
      exact h4 j hj
theorem own_rowI {w : World} {base : Nat} {e : TypeId} {size n c : Nat} {A : Option Addr} {xs : List Value} (h : w.ownsRow base e size (.slice A n c) n xs) : RowI w (fun b => base ≤ b ∧ b < w.heap.size) size A n xs := by
  refine ⟨h.1, fun hn => ?_⟩
  rcases h.2 with ⟨_, h0⟩ | ⟨g, cap, cur, hv, hb, hg, _⟩
  · omega
  · cases hv
    exact ⟨g, 0, rfl, ⟨hb, (Array.getElem?_eq_some_iff.1 hg).1⟩, fun j u hj => by rw [Nat.zero_add]; exact il_own_cell h hj⟩
end Go.Proofs.YtkfhkfagmokjpaaGreatDoor

namespace Go.Proofs.YtkfhkfagmokjpaaGreatDoor
open Go.RowKit

/-- a run's cells, a row of them; pairs; what is left -/
def acell (r : Em.R) : List Value := [.int .u8 (r.ch.toNat : Int), .int .i64 r.n, .bool r.o, .bool r.c]
def acells (l : List Em.R) : List Value := l.flatMap acell
def pcell (x : Nat × Nat × Nat) : List Value := [.int .i64 (x.1 : Int), .int .i64 (x.2.1 : Int), .int .i64 (x.2.2 : Int)]
def pcells (l : List (Nat × Nat × Nat)) : List Value := l.flatMap pcell
def lcells (L : List Nat) : List Value := L.map fun x : Nat => .int .i64 (x : Int)
/-- elements of so many cells -/
theorem flat_at {α : Type} {f : α → List Value} {m : Nat} (hf : ∀ x, (f x).length = m) : ∀ (l : List α) (k i : Nat) (hk : k < l.length), i < m → (l.flatMap f)[k * m + i]? = (f l[k])[i]?
  | [], k, _, hk, _ => by simp at hk
  | x :: l, 0, i, _, hi => by
    rw [List.flatMap_cons, Nat.zero_mul, Nat.zero_add, List.getElem?_append_left (by rw [hf]; exact hi)]; rfl
  | x :: l, k + 1, i, hk, hi => by
    have := flat_at hf l k i (by simpa using hk) hi
    rw [List.flatMap_cons, List.getElem?_append_right (by rw [hf, Nat.succ_mul]; omega), hf, show (k + 1) * m + i - m = k * m + i by rw [Nat.succ_mul]; omega, this]; rfl
theorem flat_len {α : Type} {f : α → List Value} {m : Nat} (hf : ∀ x, (f x).length = m) (l : List α) : (l.flatMap f).length = l.length * m := by
  induction l with
  | nil => simp
  | cons x l ih => rw [List.flatMap_cons, List.length_append, hf, ih, List.length_cons, Nat.succ_mul]; omega
theorem acells_len (l : List Em.R) : (acells l).length = l.length * 4 := flat_len (f := acell) (m := 4) (fun _ => rfl) l
/-- a run in a row -/
theorem run_cell {w : World} {B : Nat} {A : Option Addr} {l : List Em.R} (h : Row w B 4 A l.length (acells l)) (hn : 0 < l.length) :
    ∃ b o, A = some ⟨b, o, none⟩ ∧ b < B ∧ ∀ k (hk : k < l.length), w.cell? ⟨b, o + k * 4, none⟩ = some (.int .u8 (l[k].ch.toNat : Int)) ∧ w.cell? ⟨b, o + k * 4 + 1, none⟩ = some (.int .i64 l[k].n) ∧
      w.cell? ⟨b, o + k * 4 + 2, none⟩ = some (.bool l[k].o) ∧ w.cell? ⟨b, o + k * 4 + 3, none⟩ = some (.bool l[k].c) := by
  obtain ⟨b, o, e, hb, hc⟩ := h.2 hn
  refine ⟨b, o, e, hb, fun k hk => ?_⟩
  have hat := fun i (hi : i < 4) => flat_at (f := acell) (m := 4) (fun _ => rfl) l k i hk hi
  exact ⟨hc _ _ ((hat 0 (by omega)).trans rfl), hc _ _ ((hat 1 (by omega)).trans rfl), hc _ _ ((hat 2 (by omega)).trans rfl), hc _ _ ((hat 3 (by omega)).trans rfl)⟩

set_option maxHeartbeats 1000000 in
theorem rheld_any (n : Int) (w : World) :
    Calls Tryz.prog 71 #[.int .i64 n] w fun e w' => e = .returned (.int .i64 (Em.held n : Nat)) ∧ w = w' := by
  obtain ⟨m, hm⟩ : ∃ m, m = Em.held n := ⟨_, rfl⟩
  rw [← hm]
  obtain ⟨k, hk⟩ : ∃ k : Int, k = (if (100 : Int) < n then 100 else n) := ⟨_, rfl⟩
  have hk1 : (if (100 : Int) < n then (100 : Int) else n) = k := hk.symm
  have hk2 : min n 100 = k := by rw [hk]; split <;> omega
  have hk3 : (if k < 0 then (0 : Int) else k) = (m : Int) := by rw [hm]; unfold Em.held; rw [hk2]; split <;> omega
  have hk4 : max k 0 = (m : Int) := by rw [hm]; unfold Em.held; rw [hk2]; omega
  clear hm hk
  go_enter Tryz.func71, Tryz.ntmps71
  go_wp2
  go_ret
  exact ⟨rfl, rfl⟩

/-- a run's value -/
def aval (r : Em.R) : Value := .agg #[.int .u8 (r.ch.toNat : Int), .int .i64 r.n, .bool r.o, .bool r.c]
set_option maxHeartbeats 4000000 in
set_option maxRecDepth 100000 in
theorem rfits_any (x y : Em.R) (w : World) :
    Calls Tryz.prog 72 #[aval x, aval y] w fun e w' => e = .returned (.bool (Em.fits x y)) ∧ Below w.heap.size w w' := by
  obtain ⟨F, hF⟩ : ∃ F, F = Em.fits x y := ⟨_, rfl⟩
  rw [← hF]
  obtain ⟨xc, xn, xo, xx⟩ := x
  obtain ⟨yc, yn, yo, yx⟩ := y
  have q1 := fun w => rheld_any xn w
  have q2 := fun w => rheld_any yn w
  have b1 := Em.held_le xn
  have b2 := Em.held_le yn
  unfold Em.fits at hF
  simp only at hF
  obtain ⟨a, ha⟩ : ∃ a, a = Em.held xn := ⟨_, rfl⟩
  obtain ⟨b, hb⟩ : ∃ b, b = Em.held yn := ⟨_, rfl⟩
  rw [← ha] at q1 b1 hF
  rw [← hb] at q2 b2 hF
  clear ha hb
  have hb1 := Lib.hid (ext_trans (ext_alloc w (.cells #[.int .u8 (xc.toNat : Int), .int .i64 xn, .bool xo, .bool xx] 74)) (ext_alloc _ (.cells #[.int .u8 (yc.toNat : Int), .int .i64 yn, .bool yo, .bool yx] 74)))
  unfold aval
  simp only
  go_enter Tryz.func72, Tryz.ntmps72
  go_wp2_with fail
  go_quiet (first | exact Calls.quiet_of_same ((q1 _).mono fun _ _ h => ⟨h.1, h.2.symm⟩) | exact Calls.quiet_of_same ((q2 _).mono fun _ _ h => ⟨h.1, h.2.symm⟩))
  have hb2 := Lib.hid (below_drewN hb1.out nq)
  clear hb1
  by_cases hp : a % 3 = 0 ∧ b % 3 = 0
  · obtain ⟨p1, p2⟩ := hp
    have t1 : ((a : Int) % 3 == 0) = true := by simp; omega
    have t2 : ((b : Int) % 3 == 0) = true := by simp; omega
    have hF2 : F = true := by rw [hF, p1, p2]; rfl
    subst hF2
    clear hF
    go_wp2_with fail
    go_ret
    exact ⟨rfl, hb2.out⟩
  · obtain ⟨S, hS⟩ : ∃ S, ((a + b) % 3 == 0) = S := ⟨_, rfl⟩
    have hF2 : F = !((xo && xx || yo && yx) && S) := by
      rw [hF, hS]
      have : (a % 3 == 0 && b % 3 == 0) = false := by
        cases h : (a % 3 == 0 && b % 3 == 0) with
        | false => rfl
        | true => simp only [Bool.and_eq_true, beq_iff_eq] at h; exact absurd h hp
      rw [this, Bool.false_or]
    have hS2 : (((a : Int) + (b : Int)) % 3 == 0) = S := by
      rw [← hS, Bool.eq_iff_iff]; simp only [beq_iff_eq]; omega
    have hp' : ((a : Int) % 3 == 0) = false ∨ (((a : Int) % 3 == 0) = true ∧ ((b : Int) % 3 == 0) = false) := by
      by_cases h : a % 3 = 0
      · exact .inr ⟨by simp; omega, by simp; omega⟩
      · exact .inl (by simp; omega)
    clear hF hS hp
    rcases hp' with h1 | ⟨h1, h2⟩
    all_goals
      subst hF2
      cases xo <;> cases xx <;> cases yo <;> cases yx <;> cases S
      all_goals
        go_wp2_with fail
        go_ret
        exact ⟨rfl, hb2.out⟩
end Go.Proofs.YtkfhkfagmokjpaaGreatDoor

namespace Go.Proofs.YtkfhkfagmokjpaaGreatDoor
open Go.RowKit
attribute [local go_sem] canOp readsAs readUpon

theorem lcells_at {L : List Nat} {i : Nat} (h : i < L.length) : (lcells L)[i]? = some (.int .i64 (L[i] : Int)) := by simp [lcells, List.getElem?_eq_getElem h]
theorem left_cell {w : World} {B g n c : Nat} {L : List Nat} (h : w.ownsRow B 3 1 (.slice (some ⟨g, 0, none⟩) n c) n (lcells L)) {k : Nat} (hk : k < L.length) : w.cell? ⟨g, k, none⟩ = some (.int .i64 (L[k] : Int)) := by
  have := h.cells (g := g) rfl k _ (lcells_at hk)
  rwa [show (⟨g, 0, none⟩ : Addr).add k = ⟨g, k, none⟩ from by unfold Addr.add; split <;> simp_all] at this
/-- runs lie in a block -/
def RunsAt (l : List Em.R) (b o : Nat) (w : World) : Prop := b < w.heap.size ∧ ∀ k (hk : k < l.length), w.cell? ⟨b, o + k * 4, none⟩ = some (.int .u8 (l[k].ch.toNat : Int)) ∧ w.cell? ⟨b, o + k * 4 + 1, none⟩ = some (.int .i64 l[k].n) ∧
      w.cell? ⟨b, o + k * 4 + 2, none⟩ = some (.bool l[k].o) ∧ w.cell? ⟨b, o + k * 4 + 3, none⟩ = some (.bool l[k].c)
theorem RunsAt.ext {l : List Em.R} {b o : Nat} {w u : World} (h : RunsAt l b o w) (hu : Below w.heap.size w u) : RunsAt l b o u :=
  ⟨Nat.lt_of_lt_of_le h.1 hu.size, fun k hk => by
    obtain ⟨x0, x1, x2, x3⟩ := h.2 k hk
    exact ⟨(hu.cell (p := ⟨b, o + k * 4, none⟩) h.1).trans x0, (hu.cell (p := ⟨b, o + k * 4 + 1, none⟩) h.1).trans x1, (hu.cell (p := ⟨b, o + k * 4 + 2, none⟩) h.1).trans x2, (hu.cell (p := ⟨b, o + k * 4 + 3, none⟩) h.1).trans x3⟩⟩
/-- what is left lies in a block -/
def LeftAt (L : List Nat) (g : Nat) (w : World) : Prop := g < w.heap.size ∧ ∀ k (hk : k < L.length), w.cell? ⟨g, k, none⟩ = some (.int .i64 (L[k] : Int))
theorem LeftAt.ext {L : List Nat} {g : Nat} {w u : World} (h : LeftAt L g w) (hu : Below w.heap.size w u) : LeftAt L g u :=
  ⟨Nat.lt_of_lt_of_le h.1 hu.size, fun k hk => (hu.cell (p := ⟨g, k, none⟩) h.1).trans (h.2 k hk)⟩

/-- where the search stands -/
def SeekAt (l : List Em.R) (L : List Nat) (k : Nat) (w3 : World) (v : Value) (wq : World) : Prop :=
  ∃ (z : Int) (j : Nat), v = .int .i64 z ∧ (j : Int) = z + 1 ∧ j ≤ k ∧ Hid (Em.opener l L k k = Em.opener l L k j) ∧ Hid (Below w3.heap.size w3 wq)
def Found (l : List Em.R) (L : List Nat) (k : Nat) (z : Int) : Prop := (z = -1 ∧ Em.opener l L k k = none) ∨ ∃ i : Nat, z = (i : Int) ∧ i < k ∧ Em.opener l L k k = some i

set_option pp.deepTerms true in
set_option pp.maxSteps 100000 in
set_option maxHeartbeats 8000000 in
set_option maxRecDepth 100000 in
theorem em_fits (l : List Em.R) (L : List Nat) (b o c g c1 k i : Nat) (wr : World) (hk : k < l.length) (hil : i < l.length) (hik : i < k) (hiL : i < L.length) (hlen : l.length ≤ 4000000) (hR : RunsAt l b o wr) (hF : LeftAt L g wr)
    (hro : l[i].o = true) (ht : ((l[i].ch.toNat : Int) == (l[k].ch.toNat : Int)) = true) (hlp : (0 : Int) < (L[i] : Int))
    (s1 s2 s4 s5 s6 s9 s10 s11 s12 s13 s14 s15 s16 s17 s18 s19 s20 s21 s22 s23 s24 s25 s26 s27 s28 s29 s30 s31 s32 s33 s34 s35 s36 s37 s38 s39 s40 s41 s42 s86 s87 s88 s89 s90 s91 s92 s93 s94 s95 s96 s97 s98 s99 s100 s101 s102 s103 s104 s105 s106 s107 s108 s109 s110 s111 s112 s113 s114 s115 s116 s117 s118 s119 s120 s121 s122 s123 s124 s125 s126 s127 s128 s129 s130 s131 s132 s133 s134 s135 s136 u43 u44 u45 u46 u47 u48 u49 u50 u51 u52 u53 u54 u55 u56 u57 u58 u59 u60 u61 u62 u63 u64 u65 u66 u67 u68 u69 u70 u71 u72 u73 u74 u75 u76 u77 u78 u79 u80 u81 u82 u83 u84 u85 : Value) (Qn : Exit → Act → World → Prop)
    (hpan : ∀ c a d v w, Qn (.panic c) (Act.put a d v) w → Qn (.panic c) a w)
    (hno : ∀ (v43 v44 v45 v46 v47 v48 v49 v50 v51 v52 v53 v54 v55 v56 v57 v58 v59 v60 v61 v62 v63 v64 v65 v66 v67 v68 v69 v70 v71 v72 v73 v74 v75 v76 v77 v78 v79 v80 v81 v82 v83 v84 v85 : Value) (wq : World), Em.fits l[i] l[k] = false → Below wr.heap.size wr wq → Qn .normal ⟨(.slice (some ⟨b, o, none⟩) l.length c :: s1 :: s2 :: .slice (some ⟨g, 0, none⟩) l.length c1 :: s4 :: s5 :: s6 :: .int .i64 (k : Int) :: .int .i64 ((i : Int) - 1) :: s9 :: s10 :: s11 :: s12 :: s13 :: s14 :: s15 :: s16 :: s17 :: s18 :: s19 :: s20 :: s21 :: s22 :: s23 :: s24 :: s25 :: s26 :: s27 :: s28 :: s29 :: s30 :: s31 :: s32 :: s33 :: s34 :: s35 :: s36 :: s37 :: s38 :: s39 :: s40 :: s41 :: s42 :: v43 :: v44 :: v45 :: v46 :: v47 :: v48 :: v49 :: v50 :: v51 :: v52 :: v53 :: v54 :: v55 :: v56 :: v57 :: v58 :: v59 :: v60 :: v61 :: v62 :: v63 :: v64 :: v65 :: v66 :: v67 :: v68 :: v69 :: v70 :: v71 :: v72 :: v73 :: v74 :: v75 :: v76 :: v77 :: v78 :: v79 :: v80 :: v81 :: v82 :: v83 :: v84 :: v85 :: s86 :: s87 :: s88 :: s89 :: s90 :: s91 :: s92 :: s93 :: s94 :: s95 :: s96 :: s97 :: s98 :: s99 :: s100 :: s101 :: s102 :: s103 :: s104 :: s105 :: s106 :: s107 :: s108 :: s109 :: s110 :: s111 :: s112 :: s113 :: s114 :: s115 :: s116 :: s117 :: s118 :: s119 :: s120 :: s121 :: s122 :: s123 :: s124 :: s125 :: s126 :: s127 :: s128 :: s129 :: s130 :: s131 :: s132 :: s133 :: s134 :: s135 :: s136 :: []).toArray, []⟩ wq)
    (hyes : ∀ (v43 v44 v45 v46 v47 v48 v49 v50 v51 v52 v53 v54 v55 v56 v57 v58 v59 v60 v61 v62 v63 v64 v65 v66 v67 v68 v69 v70 v71 v72 v73 v74 v75 v76 v77 v78 v79 v80 v81 v82 v83 v84 v85 : Value) (wq : World), Em.fits l[i] l[k] = true → Below wr.heap.size wr wq → Qn (.exit 6) ⟨(.slice (some ⟨b, o, none⟩) l.length c :: s1 :: s2 :: .slice (some ⟨g, 0, none⟩) l.length c1 :: s4 :: s5 :: s6 :: .int .i64 (k : Int) :: .int .i64 (i : Int) :: s9 :: s10 :: s11 :: s12 :: s13 :: s14 :: s15 :: s16 :: s17 :: s18 :: s19 :: s20 :: s21 :: s22 :: s23 :: s24 :: s25 :: s26 :: s27 :: s28 :: s29 :: s30 :: s31 :: s32 :: s33 :: s34 :: s35 :: s36 :: s37 :: s38 :: s39 :: s40 :: s41 :: s42 :: v43 :: v44 :: v45 :: v46 :: v47 :: v48 :: v49 :: v50 :: v51 :: v52 :: v53 :: v54 :: v55 :: v56 :: v57 :: v58 :: v59 :: v60 :: v61 :: v62 :: v63 :: v64 :: v65 :: v66 :: v67 :: v68 :: v69 :: v70 :: v71 :: v72 :: v73 :: v74 :: v75 :: v76 :: v77 :: v78 :: v79 :: v80 :: v81 :: v82 :: v83 :: v84 :: v85 :: s86 :: s87 :: s88 :: s89 :: s90 :: s91 :: s92 :: s93 :: s94 :: s95 :: s96 :: s97 :: s98 :: s99 :: s100 :: s101 :: s102 :: s103 :: s104 :: s105 :: s106 :: s107 :: s108 :: s109 :: s110 :: s111 :: s112 :: s113 :: s114 :: s115 :: s116 :: s117 :: s118 :: s119 :: s120 :: s121 :: s122 :: s123 :: s124 :: s125 :: s126 :: s127 :: s128 :: s129 :: s130 :: s131 :: s132 :: s133 :: s134 :: s135 :: s136 :: []).toArray, []⟩ wq) :
    Code.wp Tryz.prog (loopBody Tryz.f56 3) Qn ⟨(.slice (some ⟨b, o, none⟩) l.length c :: s1 :: s2 :: .slice (some ⟨g, 0, none⟩) l.length c1 :: s4 :: s5 :: s6 :: .int .i64 (k : Int) :: .int .i64 (i : Int) :: s9 :: s10 :: s11 :: s12 :: s13 :: s14 :: s15 :: s16 :: s17 :: s18 :: s19 :: s20 :: s21 :: s22 :: s23 :: s24 :: s25 :: s26 :: s27 :: s28 :: s29 :: s30 :: s31 :: s32 :: s33 :: s34 :: s35 :: s36 :: s37 :: s38 :: s39 :: s40 :: s41 :: s42 :: u43 :: u44 :: u45 :: u46 :: u47 :: u48 :: u49 :: u50 :: u51 :: u52 :: u53 :: u54 :: u55 :: u56 :: u57 :: u58 :: u59 :: u60 :: u61 :: u62 :: u63 :: u64 :: u65 :: u66 :: u67 :: u68 :: u69 :: u70 :: u71 :: u72 :: u73 :: u74 :: u75 :: u76 :: u77 :: u78 :: u79 :: u80 :: u81 :: u82 :: u83 :: u84 :: u85 :: s86 :: s87 :: s88 :: s89 :: s90 :: s91 :: s92 :: s93 :: s94 :: s95 :: s96 :: s97 :: s98 :: s99 :: s100 :: s101 :: s102 :: s103 :: s104 :: s105 :: s106 :: s107 :: s108 :: s109 :: s110 :: s111 :: s112 :: s113 :: s114 :: s115 :: s116 :: s117 :: s118 :: s119 :: s120 :: s121 :: s122 :: s123 :: s124 :: s125 :: s126 :: s127 :: s128 :: s129 :: s130 :: s131 :: s132 :: s133 :: s134 :: s135 :: s136 :: []).toArray, []⟩ wr := by
  have q := fun w => rfits_any l[i] l[k] w
  have hbw2 : b < wr.heap.size := hR.1
  have hgw2 : g < wr.heap.size := hF.1
  have hSd : Hid (∀ u : World, Ext wr u → (u.cell? ⟨b, o + i * 4, none⟩ = some (.int .u8 (l[i].ch.toNat : Int)) ∧ u.cell? ⟨b, o + i * 4 + 1, none⟩ = some (.int .i64 l[i].n) ∧ u.cell? ⟨b, o + i * 4 + 2, none⟩ = some (.bool true) ∧ u.cell? ⟨b, o + i * 4 + 3, none⟩ = some (.bool l[i].c)) ∧
      (u.cell? ⟨b, o + k * 4, none⟩ = some (.int .u8 (l[k].ch.toNat : Int)) ∧ u.cell? ⟨b, o + k * 4 + 1, none⟩ = some (.int .i64 l[k].n) ∧ u.cell? ⟨b, o + k * 4 + 2, none⟩ = some (.bool l[k].o) ∧ u.cell? ⟨b, o + k * 4 + 3, none⟩ = some (.bool l[k].c)) ∧
      u.cell? ⟨g, i, none⟩ = some (.int .i64 (L[i] : Int))) := Lib.hid fun u hu => by
    have a1 := (hR.ext hu).2 i hil
    rw [hro] at a1
    exact ⟨a1, (hR.ext hu).2 k hk, (hF.ext hu).2 i hiL⟩
  have hS : Ext wr wr.drew := ext_drew wr
  obtain ⟨F, hFv⟩ : ∃ F, F = Em.fits l[i] l[k] := ⟨_, rfl⟩
  rw [← hFv] at q hno hyes
  unfold aval at q
  rw [hro] at q
  replace hno := Lib.hid hno
  replace hyes := Lib.hid hyes
  replace hpan := Lib.hid hpan
  clear hFv hro hR hF
  obtain ⟨⟨z0, z1, z2, z3⟩, ⟨t0, t1, t2, t3⟩, t4⟩ := hSd.out wr.drew hS
  have hln : 0 < L[i] := by omega
  have hld : decide (0 < L[i]) = true := decide_eq_true hln
  generalize l[i].ch.toNat = ci at *
  generalize l[k].ch.toNat = ck at *
  generalize l[i].n = ni at *
  generalize l[k].n = nk at *
  generalize l[i].c = cli at *
  generalize l[k].c = clk at *
  generalize l[k].o = ok_ at *
  generalize L[i] = li at *
  conv => arg 2; whnf
  go_wp2_with fail
  refine wp_region_can ((true, 0) :: (true, 1) :: (true, 2) :: (true, 3) :: (true, 4) :: (true, 5) :: (true, 6) :: (true, 7) :: (true, 8) :: (true, 9) :: (true, 10) :: (true, 11) :: (true, 12) :: (true, 13) :: (true, 14) :: (true, 15) :: (true, 16) :: (true, 17) :: (true, 18) :: (true, 19) :: (true, 20) :: (true, 21) :: (true, 22) :: (true, 23) :: (true, 24) :: (true, 25) :: (true, 26) :: (true, 27) :: (true, 28) :: (true, 29) :: (true, 30) :: (true, 31) :: (true, 32) :: (true, 33) :: (true, 34) :: (true, 35) :: (true, 36) :: (false, 37) :: (true, 38) :: (true, 39) :: (true, 40) :: []) (Ext wr) hS (by kernel_rfl) (by kernel_rfl) (by kernel_rfl) (fun _ _ _ _ _ h => hpan.out _ _ _ _ _ h) ?_
  iterate 37 (first | refine wpCan_move rfl ?_ | (refine wpCan_cons rfl ?_; intro K hK; go_simp; first | (refine hK _ _ _ ?_; clear hK K) | (refine ⟨fun w' hw' => by obtain ⟨⟨z0, z1, z2, z3⟩, ⟨t0, t1, t2, t3⟩, t4⟩ := hSd.out w' hw'; go_simp, hK _ _ _ ?_⟩; clear hK K)))
  refine wpCan_cons rfl ?_
  intro K hK
  go_simp
  refine (q _).mono ?_
  rintro e w4 ⟨rfl, hb4⟩
  replace hb4 := ext_trans (ext_drew wr) hb4
  refine can_ext hb4 (hK _ _ _ ?_)
  clear hK K q
  replace hb4 := Lib.hid hb4
  cases F
  · repeat (first | refine wpCan_move rfl ?_ | (refine wpCan_cons rfl ?_; intro K hK; go_simp; refine hK _ _ _ ?_; clear hK K))
    refine wpCan_nil ?_
    go_wp2_with fail
    exact hno.out _ _ _ _ _ _ _ _ _ _ _ _ _ _ _ _ _ _ _ _ _ _ _ _ _ _ _ _ _ _ _ _ _ _ _ _ _ _ _ _ _ _ _ _ (by first | rfl | trivial) hb4.out
  · repeat (first | refine wpCan_move rfl ?_ | (refine wpCan_cons rfl ?_; intro K hK; go_simp; refine hK _ _ _ ?_; clear hK K))
    refine wpCan_nil ?_
    go_wp2_with fail
    exact hyes.out _ _ _ _ _ _ _ _ _ _ _ _ _ _ _ _ _ _ _ _ _ _ _ _ _ _ _ _ _ _ _ _ _ _ _ _ _ _ _ _ _ _ _ _ (by first | rfl | trivial) hb4.out

set_option maxHeartbeats 8000000 in
set_option maxRecDepth 100000 in
theorem em_search (l : List Em.R) (L : List Nat) (b o c g c1 k : Nat) (w3 : World) (hk : k < l.length) (hLl : L.length = l.length) (hlen : l.length ≤ 4000000) (hR : RunsAt l b o w3) (hF : LeftAt L g w3)
    (s1 s2 s4 s5 s6 s9 s10 s11 s12 s13 s14 s15 s16 s17 s18 s19 s20 s21 s22 s23 s24 s25 s26 s27 s28 s29 s30 s31 s32 s33 s34 s35 s36 s37 s38 s39 s40 s41 s42 s43 s44 s45 s46 s47 s48 s49 s50 s51 s52 s53 s54 s55 s56 s57 s58 s59 s60 s61 s62 s63 s64 s65 s66 s67 s68 s69 s70 s71 s72 s73 s74 s75 s76 s77 s78 s79 s80 s81 s82 s83 s84 s85 s86 s87 s88 s89 s90 s91 s92 s93 s94 s95 s96 s97 s98 s99 s100 s101 s102 s103 s104 s105 s106 s107 s108 s109 s110 s111 s112 s113 s114 s115 s116 s117 s118 s119 s120 s121 s122 s123 s124 s125 s126 s127 s128 s129 s130 s131 s132 s133 s134 s135 s136 : Value) (Q0 : Exit → Act → World → Prop) (hpan : ∀ c a d v w, Q0 (.panic c) (Act.put a d v) w → Q0 (.panic c) a w)
    (hexit : ∀ (u43 u44 u45 u46 u47 u48 u49 u50 u51 u52 u53 u54 u55 u56 u57 u58 u59 u60 u61 u62 u63 u64 u65 u66 u67 u68 u69 u70 u71 u72 u73 u74 u75 u76 u77 u78 u79 u80 u81 u82 u83 u84 u85 : Value) (z : Int) (wq : World), Below w3.heap.size w3 wq → Found l L k z → Q0 (.exit 6) ⟨(.slice (some ⟨b, o, none⟩) l.length c :: s1 :: s2 :: .slice (some ⟨g, 0, none⟩) l.length c1 :: s4 :: s5 :: s6 :: .int .i64 (k : Int) :: .int .i64 z :: s9 :: s10 :: s11 :: s12 :: s13 :: s14 :: s15 :: s16 :: s17 :: s18 :: s19 :: s20 :: s21 :: s22 :: s23 :: s24 :: s25 :: s26 :: s27 :: s28 :: s29 :: s30 :: s31 :: s32 :: s33 :: s34 :: s35 :: s36 :: s37 :: s38 :: s39 :: s40 :: s41 :: s42 :: u43 :: u44 :: u45 :: u46 :: u47 :: u48 :: u49 :: u50 :: u51 :: u52 :: u53 :: u54 :: u55 :: u56 :: u57 :: u58 :: u59 :: u60 :: u61 :: u62 :: u63 :: u64 :: u65 :: u66 :: u67 :: u68 :: u69 :: u70 :: u71 :: u72 :: u73 :: u74 :: u75 :: u76 :: u77 :: u78 :: u79 :: u80 :: u81 :: u82 :: u83 :: u84 :: u85 :: s86 :: s87 :: s88 :: s89 :: s90 :: s91 :: s92 :: s93 :: s94 :: s95 :: s96 :: s97 :: s98 :: s99 :: s100 :: s101 :: s102 :: s103 :: s104 :: s105 :: s106 :: s107 :: s108 :: s109 :: s110 :: s111 :: s112 :: s113 :: s114 :: s115 :: s116 :: s117 :: s118 :: s119 :: s120 :: s121 :: s122 :: s123 :: s124 :: s125 :: s126 :: s127 :: s128 :: s129 :: s130 :: s131 :: s132 :: s133 :: s134 :: s135 :: s136 :: []).toArray, []⟩ wq) :
    Code.wp Tryz.prog (Code.loop (loopBody Tryz.f56 3)) Q0 ⟨(.slice (some ⟨b, o, none⟩) l.length c :: s1 :: s2 :: .slice (some ⟨g, 0, none⟩) l.length c1 :: s4 :: s5 :: s6 :: .int .i64 (k : Int) :: .int .i64 ((k : Int) - 1) :: s9 :: s10 :: s11 :: s12 :: s13 :: s14 :: s15 :: s16 :: s17 :: s18 :: s19 :: s20 :: s21 :: s22 :: s23 :: s24 :: s25 :: s26 :: s27 :: s28 :: s29 :: s30 :: s31 :: s32 :: s33 :: s34 :: s35 :: s36 :: s37 :: s38 :: s39 :: s40 :: s41 :: s42 :: s43 :: s44 :: s45 :: s46 :: s47 :: s48 :: s49 :: s50 :: s51 :: s52 :: s53 :: s54 :: s55 :: s56 :: s57 :: s58 :: s59 :: s60 :: s61 :: s62 :: s63 :: s64 :: s65 :: s66 :: s67 :: s68 :: s69 :: s70 :: s71 :: s72 :: s73 :: s74 :: s75 :: s76 :: s77 :: s78 :: s79 :: s80 :: s81 :: s82 :: s83 :: s84 :: s85 :: s86 :: s87 :: s88 :: s89 :: s90 :: s91 :: s92 :: s93 :: s94 :: s95 :: s96 :: s97 :: s98 :: s99 :: s100 :: s101 :: s102 :: s103 :: s104 :: s105 :: s106 :: s107 :: s108 :: s109 :: s110 :: s111 :: s112 :: s113 :: s114 :: s115 :: s116 :: s117 :: s118 :: s119 :: s120 :: s121 :: s122 :: s123 :: s124 :: s125 :: s126 :: s127 :: s128 :: s129 :: s130 :: s131 :: s132 :: s133 :: s134 :: s135 :: s136 :: []).toArray, []⟩ w3 := by
  replace hR := Lib.hid hR
  replace hF := Lib.hid hF
  replace hexit := Lib.hid hexit
  replace hpan := Lib.hid hpan
  conv => arg 2; arg 1; whnf
  go_loopw [8] (fun v wq => SeekAt l L k w3 v wq) (fun v _ => (intOf v + 1).toNat)
  case atStart => exact ⟨(k : Int) - 1, k, rfl, by omega, Nat.le_refl _, Lib.hid rfl, Lib.hid (Below.refl _ _)⟩
  case round =>
    obtain ⟨z, j, rfl, hz, hj, hop, hq⟩ := hrel
    rcases Nat.eq_zero_or_pos j with rfl | hjp
    · have hzn : z = -1 := by omega
      subst hzn
      have hst : Hid (Found l L k (-1)) := Lib.hid (.inl ⟨rfl, by rw [hop.out]; rfl⟩)
      have hq2 := Lib.hid (below_drewN hq.out)
      clear hop hz
      go_wp2_with fail
      go_quiet (fail)
      go_wp2_with fail
      exact hexit.out _ _ _ _ _ _ _ _ _ _ _ _ _ _ _ _ _ _ _ _ _ _ _ _ _ _ _ _ _ _ _ _ _ _ _ _ _ _ _ _ _ _ _ _ _ (hq2.out nq) hst.out
    · obtain ⟨i, rfl⟩ : ∃ i, j = i + 1 := ⟨j - 1, by omega⟩
      have hzi : z = (i : Int) := by omega
      subst hzi
      have hil : i < l.length := by omega
      have hiL : i < L.length := by omega
      have hkL : k < L.length := by omega
      have hRr := hR.out.ext hq.out
      have hFr := hF.out.ext hq.out
      obtain ⟨x0, x1, x2, x3⟩ := hRr.2 i hil
      obtain ⟨y0, y1, y2, y3⟩ := hRr.2 k hk
      have v0 := hFr.2 i hiL
      have hbw2 : b < wr.heap.size := hRr.1
      have hgw2 : g < wr.heap.size := hFr.1
      replace hRr := Lib.hid hRr
      replace hFr := Lib.hid hFr
      have hgk : Em.get l k = l[k] := Em.get_at hk
      have hgi : Em.get l i = l[i] := Em.get_at hil
      have hlfi : Em.lf L i = L[i] := Em.lf_at hiL
      have hokd : Em.ok l L i k = (l[i].o && l[i].ch == l[k].ch && decide (0 < L[i]) && Em.fits l[i] l[k]) := by unfold Em.ok; rw [hgi, hgk, hlfi]
      have hnext : Hid (∀ n, Em.ok l L i k = false → SeekAt l L k w3 (.int .i64 ((i : Int) - 1)) (wr.drewN n)) :=
        Lib.hid fun n h => ⟨(i : Int) - 1, i, rfl, by omega, by omega, Lib.hid (by rw [hop.out, Em.opener_no h]), Lib.hid (below_drewN hq.out n)⟩
      cases hro : l[i].o with
      | false =>
        rw [hro] at x2
        have hno : Hid (Em.ok l L i k = false) := Lib.hid (by rw [hokd, hro]; rfl)
        clear hokd hgi hgk hlfi hop hexit x0 x1 x3 y0 y1 y2 y3 v0
        go_wp2_with fail
        go_quiet (fail)
        go_wp2_with fail
        go_roundw
        case rel => exact hnext.out nq hno.out
        case measure => simp [intOf] <;> omega
      | true =>
        rw [hro] at x2
        by_cases hch : l[i].ch = l[k].ch
        · have ht : ((l[i].ch.toNat : Int) == (l[k].ch.toNat : Int)) = true := byte_same hch
          rcases Nat.eq_zero_or_pos L[i] with hl0 | hl0
          · rw [hl0] at v0
            have hno : Hid (Em.ok l L i k = false) := Lib.hid (by rw [hokd, hl0]; simp)
            clear hokd hgi hgk hlfi hch hop hexit x1 x3 y1 y2 y3
            go_wp2_with fail
            go_quiet (fail)
            go_wp2_with fail
            go_roundw
            case rel => exact hnext.out nq hno.out
            case measure => simp [intOf] <;> omega
          · have hlp : (0 : Int) < (L[i] : Int) := by omega
            have hokf : Hid (Em.ok l L i k = Em.fits l[i] l[k]) := Lib.hid (by rw [hokd, hro, hch]; simp [hl0])
            clear x0 x1 x2 x3 y0 y1 y2 y3 v0 hokd hgi hgk hlfi hz
            refine em_fits l L b o c g c1 k i wr hk hil (by omega) hiL hlen hRr.out hFr.out hro ht hlp _ _ _ _ _ _ _ _ _ _ _ _ _ _ _ _ _ _ _ _ _ _ _ _ _ _ _ _ _ _ _ _ _ _ _ _ _ _ _ _ _ _ _ _ _ _ _ _ _ _ _ _ _ _ _ _ _ _ _ _ _ _ _ _ _ _ _ _ _ _ _ _ _ _ _ _ _ _ _ _ _ _ _ _ _ _ _ _ _ _ _ _ _ _ _ _ _ _ _ _ _ _ _ _ _ _ _ _ _ _ _ _ _ _ _ _ _ _ _ _ _ _ _ _ _ _ _ _ _ _ _ _ _ _ (fun _ _ _ _ _ h => hpan.out _ _ _ _ _ h) (fun u43 u44 u45 u46 u47 u48 u49 u50 u51 u52 u53 u54 u55 u56 u57 u58 u59 u60 u61 u62 u63 u64 u65 u66 u67 u68 u69 u70 u71 u72 u73 u74 u75 u76 u77 u78 u79 u80 u81 u82 u83 u84 u85 wq hf hw => ?_) (fun u43 u44 u45 u46 u47 u48 u49 u50 u51 u52 u53 u54 u55 u56 u57 u58 u59 u60 u61 u62 u63 u64 u65 u66 u67 u68 u69 u70 u71 u72 u73 u74 u75 u76 u77 u78 u79 u80 u81 u82 u83 u84 u85 wq hf hw => ?_)
            · have hno : Hid (Em.ok l L i k = false) := Lib.hid (by rw [hokf.out, hf])
              replace hw := Lib.hid (show Below w3.heap.size w3 wq from ext_trans hq.out hw)
              refine ⟨⟨_, _, _, _, _, _, _, _, _, _, _, _, _, _, _, _, _, _, _, _, _, _, _, _, _, _, _, _, _, _, _, _, _, _, _, _, _, _, _, _, _, _, _, _, ?rel, rfl⟩, ?measure⟩
              case rel => exact ⟨(i : Int) - 1, i, rfl, by omega, by omega, Lib.hid (by rw [hop.out, Em.opener_no hno.out]), hw⟩
              case measure => simp [intOf] <;> omega
            · exact hexit.out _ _ _ _ _ _ _ _ _ _ _ _ _ _ _ _ _ _ _ _ _ _ _ _ _ _ _ _ _ _ _ _ _ _ _ _ _ _ _ _ _ _ _ _ _ (ext_trans hq.out hw) (.inr ⟨i, rfl, by omega, by rw [hop.out, Em.opener_yes (by rw [hokf.out, hf])]⟩)
        · have ht : ((l[i].ch.toNat : Int) == (l[k].ch.toNat : Int)) = false := byte_diff hch
          have hno : Hid (Em.ok l L i k = false) := Lib.hid (by
            rw [hokd, hro]
            have : (l[i].ch == l[k].ch) = false := by simpa using hch
            rw [this]; rfl)
          clear hokd hgi hgk hlfi hch hop hexit x1 x3 y1 y2 y3 v0
          go_wp2_with fail
          go_quiet (fail)
          go_wp2_with fail
          go_roundw
          case rel => exact hnext.out nq hno.out
          case measure => simp [intOf] <;> omega

end Go.Proofs.YtkfhkfagmokjpaaGreatDoor

namespace Go.Proofs.YtkfhkfagmokjpaaGreatDoor
open Go.RowKit

theorem intEI : EI Tryz.prog 26 3 1 8 := EI.mk' Tryz.underlying26 (z := .int .i64 0) (by kernel_rfl) rfl (by omega)
theorem pairEI : EI Tryz.prog 106 108 3 24 := EI.mk' Tryz.underlying106 (z := .agg #[.int .i64 0, .int .i64 0, .int .i64 0]) (by kernel_rfl) rfl (by omega)
theorem lcells_set (L : List Nat) (i x : Nat) : (lcells L).set i (.int .i64 (x : Int)) = lcells (L.set i x) := by simp [lcells, List.map_set]
theorem lcells_len (L : List Nat) : (lcells L).length = L.length := by simp [lcells]
/-- the memory between two steps: what is left, the pairs -/
structure EmAt (w0 : World) (n g c1 : Nat) (L : List Nat) (ov : Value) (out : List (Nat × Nat × Nat)) (w : World) : Prop where
  left : w.ownsRow w0.heap.size 3 1 (.slice (some ⟨g, 0, none⟩) n c1) n (lcells L)
  pairs : w.ownsRow w0.heap.size 108 3 ov out.length (pcells out)
  apart : Apart (.slice (some ⟨g, 0, none⟩) n c1) ov
  below : Below w0.heap.size w0 w
  len : L.length = n
theorem EmAt.ext {w0 w u : World} {n g c1 : Nat} {L : List Nat} {ov : Value} {out : List (Nat × Nat × Nat)} (h : EmAt w0 n g c1 L ov out w) (hu : Below w.heap.size w u) : EmAt w0 n g c1 L ov out u :=
  ⟨own_below h.left hu, own_below h.pairs hu, h.apart, h.below.trans (hu.mono h.below.size), h.len⟩
theorem EmAt.lt {w0 w : World} {n g c1 : Nat} {L : List Nat} {ov : Value} {out : List (Nat × Nat × Nat)} (h : EmAt w0 n g c1 L ov out w) : w0.heap.size ≤ g ∧ g < w.heap.size := h.left.lt g rfl
theorem EmAt.leftAt {w0 w : World} {n g c1 : Nat} {L : List Nat} {ov : Value} {out : List (Nat × Nat × Nat)} (h : EmAt w0 n g c1 L ov out w) : LeftAt L g w := ⟨h.lt.2, fun _ hk => left_cell h.left hk⟩
/-- one is set -/
theorem EmAt.set {w0 w : World} {n g c1 : Nat} {L : List Nat} {ov : Value} {out : List (Nat × Nat × Nat)} (h : EmAt w0 n g c1 L ov out w) (i x : Nat) : EmAt w0 n g c1 (L.set i x) ov out (w.setCell ⟨g, i, none⟩ (.int .i64 (x : Int))) := by
  obtain ⟨h1, h2⟩ := h.left.stored i (.int .i64 (x : Int))
  exact ⟨by rw [← lcells_set]; exact h1, own_apart (a := .slice (some ⟨g, 0, none⟩) n c1) h.pairs h2 h.apart, h.apart, h.below.setCell (p := ⟨g, i, none⟩) h.lt.1 _, by rw [List.length_set]; exact h.len⟩
/-- a pair more -/
theorem EmAt.push {w0 w w7 : World} {n g c1 : Nat} {L : List Nat} {ov ov7 : Value} {out : List (Nat × Nat × Nat)} {x : Nat × Nat × Nat} {cs : List Value} (h : EmAt w0 n g c1 L ov out w)
    (ho : w7.ownsRow w0.heap.size 108 3 ov7 (out.length + 1) (pcells out ++ cs)) (hcs : cs = pcell x) (hg : w.grownBy w7 ov.ownBlock) (hb : Below w0.heap.size w w7) (hat : At w.heap.size ov ov7) :
    EmAt w0 n g c1 L ov7 (out ++ [x]) w7 :=
  ⟨own_apart h.left hg h.apart.symm, by subst hcs; simpa [pcells] using ho, (h.apart.symm.step h.left hat (Nat.le_refl _)).symm, h.below.trans hb, h.len⟩
theorem EmAt.fz {w0 w : World} {n g c1 : Nat} {L : List Nat} {ov : Value} {out : List (Nat × Nat × Nat)} (h : EmAt w0 n g c1 L ov out w) (i : Nat) : w.frozen? ⟨g, i, none⟩ = false := h.left.frozenAt i

set_option maxHeartbeats 4000000 in
set_option maxRecDepth 100000 in
theorem em_wipe (w0 w5 : World) (n g c1 k i s : Nat) (L : List Nat) (ov : Value) (out : List (Nat × Nat × Nat)) (hik : i < k) (hkn : k < n) (hn : n ≤ 4000000) (hM : EmAt w0 n g c1 (Em.wiped L i k s (i + 1)) ov out w5)
    (s0 s1 s2 s4 s5 s6 s8 s9 s11 s12 s13 s14 s15 s16 s17 s18 s19 s20 s21 s22 s23 s24 s25 s26 s27 s28 s29 s30 s31 s32 s33 s34 s35 s36 s37 s38 s39 s40 s41 s42 s43 s44 s45 s46 s47 s48 s49 s50 s51 s52 s53 s54 s55 s56 s57 s58 s59 s60 s61 s62 s63 s64 s65 s66 s67 s68 s69 s70 s71 s72 s73 s74 s75 s76 s77 s78 s79 s80 s81 s82 s83 s84 s85 s86 s87 s88 s89 s90 s91 s92 s93 s94 s95 s96 s97 s98 s99 s100 s101 s102 s103 s104 s105 s106 s107 s108 s109 s110 s111 s112 s113 s114 s115 s116 s117 s118 s119 s120 s121 s122 s123 s124 s125 s126 s127 s128 s129 s130 s131 s132 s133 s134 s135 s136 : Value) (Q0 : Exit → Act → World → Prop)
    (hexit : ∀ (u127 u128 u129 u130 u131 u132 u133 u134 : Value) (wq : World), EmAt w0 n g c1 (Em.lower L i k s) ov out wq → Q0 (.exit 8) ⟨(s0 :: s1 :: s2 :: .slice (some ⟨g, 0, none⟩) n c1 :: s4 :: s5 :: s6 :: .int .i64 (k : Int) :: s8 :: s9 :: .int .i64 (k : Int) :: s11 :: s12 :: s13 :: s14 :: s15 :: s16 :: s17 :: s18 :: s19 :: s20 :: s21 :: s22 :: s23 :: s24 :: s25 :: s26 :: s27 :: s28 :: s29 :: s30 :: s31 :: s32 :: s33 :: s34 :: s35 :: s36 :: s37 :: s38 :: s39 :: s40 :: s41 :: s42 :: s43 :: s44 :: s45 :: s46 :: s47 :: s48 :: s49 :: s50 :: s51 :: s52 :: s53 :: s54 :: s55 :: s56 :: s57 :: s58 :: s59 :: s60 :: s61 :: s62 :: s63 :: s64 :: s65 :: s66 :: s67 :: s68 :: s69 :: s70 :: s71 :: s72 :: s73 :: s74 :: s75 :: s76 :: s77 :: s78 :: s79 :: s80 :: s81 :: s82 :: s83 :: s84 :: s85 :: s86 :: s87 :: s88 :: s89 :: s90 :: s91 :: s92 :: s93 :: s94 :: s95 :: s96 :: s97 :: s98 :: s99 :: s100 :: s101 :: s102 :: s103 :: s104 :: s105 :: s106 :: s107 :: s108 :: s109 :: s110 :: s111 :: s112 :: s113 :: s114 :: s115 :: s116 :: s117 :: s118 :: s119 :: s120 :: s121 :: s122 :: s123 :: s124 :: s125 :: s126 :: u127 :: u128 :: u129 :: u130 :: u131 :: u132 :: u133 :: u134 :: s135 :: s136 :: []).toArray, []⟩ wq) :
    Code.wp Tryz.prog (Code.loop (loopBody Tryz.f56 4)) Q0 ⟨(s0 :: s1 :: s2 :: .slice (some ⟨g, 0, none⟩) n c1 :: s4 :: s5 :: s6 :: .int .i64 (k : Int) :: s8 :: s9 :: .int .i64 ((i : Int) + 1) :: s11 :: s12 :: s13 :: s14 :: s15 :: s16 :: s17 :: s18 :: s19 :: s20 :: s21 :: s22 :: s23 :: s24 :: s25 :: s26 :: s27 :: s28 :: s29 :: s30 :: s31 :: s32 :: s33 :: s34 :: s35 :: s36 :: s37 :: s38 :: s39 :: s40 :: s41 :: s42 :: s43 :: s44 :: s45 :: s46 :: s47 :: s48 :: s49 :: s50 :: s51 :: s52 :: s53 :: s54 :: s55 :: s56 :: s57 :: s58 :: s59 :: s60 :: s61 :: s62 :: s63 :: s64 :: s65 :: s66 :: s67 :: s68 :: s69 :: s70 :: s71 :: s72 :: s73 :: s74 :: s75 :: s76 :: s77 :: s78 :: s79 :: s80 :: s81 :: s82 :: s83 :: s84 :: s85 :: s86 :: s87 :: s88 :: s89 :: s90 :: s91 :: s92 :: s93 :: s94 :: s95 :: s96 :: s97 :: s98 :: s99 :: s100 :: s101 :: s102 :: s103 :: s104 :: s105 :: s106 :: s107 :: s108 :: s109 :: s110 :: s111 :: s112 :: s113 :: s114 :: s115 :: s116 :: s117 :: s118 :: s119 :: s120 :: s121 :: s122 :: s123 :: s124 :: s125 :: s126 :: s127 :: s128 :: s129 :: s130 :: s131 :: s132 :: s133 :: s134 :: s135 :: s136 :: []).toArray, []⟩ w5 := by
  replace hexit := Lib.hid hexit
  replace hM := Lib.hid hM
  conv => arg 2; arg 1; whnf
  go_loopw [10] (fun v wr => ∃ j : Nat, i < j ∧ j ≤ k ∧ v = .int .i64 (j : Int) ∧ Hid (EmAt w0 n g c1 (Em.wiped L i k s j) ov out wr)) (fun v _ => k - (intOf v).toNat)
  case atStart => exact ⟨i + 1, by omega, by omega, by go_num, hM⟩
  case round =>
    obtain ⟨j, hij, hjk, rfl, hA⟩ := hrel
    clear hM
    rcases Nat.lt_or_eq_of_le hjk with hlt | rfl
    · have hfz := hA.out.fz j
      have hgw := hA.out.lt.2
      have hLl : L.length = n := by rw [← hA.out.len, Em.wiped_len]
      have hv := left_cell hA.out.left (k := j) (by rw [Em.wiped_len]; omega)
      have hst := Lib.hid (show EmAt w0 n g c1 (Em.wiped L i k s (j + 1)) ov out (wr.setCell ⟨g, j, none⟩ (.int .i64 0)) from by
        rw [Em.wiped_step hij hlt (by omega)]; exact hA.out.set j 0)
      have hjn : j < n := by omega
      clear hexit
      go_wp2_with fail
      go_roundw
      case rel => exact ⟨j + 1, by omega, by omega, by go_num, hst⟩
      case measure => simp [intOf] <;> omega
    · go_wp2_with fail
      exact hexit.out _ _ _ _ _ _ _ _ _ hA.out
end Go.Proofs.YtkfhkfagmokjpaaGreatDoor

namespace Go.Proofs.YtkfhkfagmokjpaaGreatDoor
open Go.RowKit
attribute [local go_sem] canOp readsAs readUpon

set_option maxHeartbeats 4000000 in
set_option maxRecDepth 100000 in
theorem em_stores1 (w7 : World) (n g c1 k i li lk : Nat) (hin : i < n) (hkn : k < n) (hlk1 : lk ≤ 100) (hli1 : li ≤ 100) (hli : w7.cell? ⟨g, i, none⟩ = some (.int .i64 (li : Int))) (hlk : w7.cell? ⟨g, k, none⟩ = some (.int .i64 (lk : Int)))
    (fz1 : w7.frozen? ⟨g, i, none⟩ = false) (fz2 : w7.frozen? ⟨g, k, none⟩ = false) (hne : i ≠ k) (hl2 : 1 ≤ li) (hk2 : 1 ≤ lk)
    (s0 s1 s2 s4 s5 s6 s10 s11 s12 s13 s14 s15 s16 s17 s18 s19 s20 s21 s22 s23 s24 s25 s26 s27 s28 s29 s30 s31 s32 s33 s34 s35 s36 s37 s38 s39 s40 s41 s42 s43 s44 s45 s46 s47 s48 s49 s50 s51 s52 s53 s54 s55 s56 s57 s58 s59 s60 s61 s62 s63 s64 s65 s66 s67 s68 s69 s70 s71 s72 s73 s74 s75 s76 s77 s78 s79 s80 s81 s82 s83 s84 s85 s86 s87 s88 s89 s90 s91 s92 s93 s94 s95 s96 s97 s98 s99 s100 s101 s102 s103 s104 s105 s106 s107 s108 s109 s110 s111 s112 s113 s114 s115 s116 s117 s118 s119 s120 s121 s122 s123 s124 s125 s126 s127 s128 s129 s130 s131 s132 s133 s134 s135 s136 : Value) (Q : Exit → Act → World → Prop) (hpan : ∀ c a d v w, Q (.panic c) (Act.put a d v) w → Q (.panic c) a w)
    (hk : ∀ (v107 v108 v109 v110 v111 v112 v113 v114 v115 v116 v117 v118 v119 v120 v121 v122 v123 v124 : Value) (wq : World), wq = ((w7.setCell ⟨g, i, none⟩ (.int .i64 ((li : Int) - 1))).setCell ⟨g, k, none⟩ (.int .i64 ((lk : Int) - 1))).drew → Q .normal ⟨(s0 :: s1 :: s2 :: .slice (some ⟨g, 0, none⟩) n c1 :: s4 :: s5 :: s6 :: .int .i64 (k : Int) :: .int .i64 (i : Int) :: .int .i64 1 :: s10 :: s11 :: s12 :: s13 :: s14 :: s15 :: s16 :: s17 :: s18 :: s19 :: s20 :: s21 :: s22 :: s23 :: s24 :: s25 :: s26 :: s27 :: s28 :: s29 :: s30 :: s31 :: s32 :: s33 :: s34 :: s35 :: s36 :: s37 :: s38 :: s39 :: s40 :: s41 :: s42 :: s43 :: s44 :: s45 :: s46 :: s47 :: s48 :: s49 :: s50 :: s51 :: s52 :: s53 :: s54 :: s55 :: s56 :: s57 :: s58 :: s59 :: s60 :: s61 :: s62 :: s63 :: s64 :: s65 :: s66 :: s67 :: s68 :: s69 :: s70 :: s71 :: s72 :: s73 :: s74 :: s75 :: s76 :: s77 :: s78 :: s79 :: s80 :: s81 :: s82 :: s83 :: s84 :: s85 :: s86 :: s87 :: s88 :: s89 :: s90 :: s91 :: s92 :: s93 :: s94 :: s95 :: s96 :: s97 :: s98 :: s99 :: s100 :: s101 :: s102 :: s103 :: s104 :: s105 :: s106 :: v107 :: v108 :: v109 :: v110 :: v111 :: v112 :: v113 :: v114 :: v115 :: v116 :: v117 :: v118 :: v119 :: v120 :: v121 :: v122 :: v123 :: v124 :: s125 :: s126 :: s127 :: s128 :: s129 :: s130 :: s131 :: s132 :: s133 :: s134 :: s135 :: s136 :: []).toArray, []⟩ wq) :
    Code.wp Tryz.prog (regionAt Tryz.f56 20) Q ⟨(s0 :: s1 :: s2 :: .slice (some ⟨g, 0, none⟩) n c1 :: s4 :: s5 :: s6 :: .int .i64 (k : Int) :: .int .i64 (i : Int) :: .int .i64 1 :: s10 :: s11 :: s12 :: s13 :: s14 :: s15 :: s16 :: s17 :: s18 :: s19 :: s20 :: s21 :: s22 :: s23 :: s24 :: s25 :: s26 :: s27 :: s28 :: s29 :: s30 :: s31 :: s32 :: s33 :: s34 :: s35 :: s36 :: s37 :: s38 :: s39 :: s40 :: s41 :: s42 :: s43 :: s44 :: s45 :: s46 :: s47 :: s48 :: s49 :: s50 :: s51 :: s52 :: s53 :: s54 :: s55 :: s56 :: s57 :: s58 :: s59 :: s60 :: s61 :: s62 :: s63 :: s64 :: s65 :: s66 :: s67 :: s68 :: s69 :: s70 :: s71 :: s72 :: s73 :: s74 :: s75 :: s76 :: s77 :: s78 :: s79 :: s80 :: s81 :: s82 :: s83 :: s84 :: s85 :: s86 :: s87 :: s88 :: s89 :: s90 :: s91 :: s92 :: s93 :: s94 :: s95 :: s96 :: s97 :: s98 :: s99 :: s100 :: s101 :: s102 :: s103 :: s104 :: s105 :: s106 :: s107 :: s108 :: s109 :: s110 :: s111 :: s112 :: s113 :: s114 :: s115 :: s116 :: s117 :: s118 :: s119 :: s120 :: s121 :: s122 :: s123 :: s124 :: s125 :: s126 :: s127 :: s128 :: s129 :: s130 :: s131 :: s132 :: s133 :: s134 :: s135 :: s136 :: []).toArray, []⟩ w7 := by
  have hwr1 : IntKind.i64.wrap ((li : Int) - 1) = (li : Int) - 1 := by rw [IntKind.wrap_i64]; omega
  have hwr2 : IntKind.i64.wrap ((lk : Int) - 1) = (lk : Int) - 1 := by rw [IntKind.wrap_i64]; omega
  have hlk' : (w7.setCell ⟨g, i, none⟩ (.int .i64 ((li : Int) - 1))).cell? ⟨g, k, none⟩ = some (.int .i64 (lk : Int)) := by
    rw [World.cell?_setCell_other w7 ⟨g, i, none⟩ ⟨g, k, none⟩ _ (by intro h; injection h with _ h2 _; exact hne h2)]; exact hlk
  replace hk := Lib.hid hk
  replace hpan := Lib.hid hpan
  conv => arg 2; whnf
  refine wp_region_tree (.rd 0 (.rd 1 (.rd 2 (.rd 3 (.rd 4 (.rd 5 (.rd 6 (.rd 8 (.rd 10 (.rd 11 (.rd 12 (.rd 14 (.fk 7 (.rd 9 (.mk 13 (.rd 15 (.rd 16 (.mk 17 (.rd 18 (.mk 19 .fin))))))) 13 (.rd 15 (.mk 7 (.rd 9 (.rd 16 (.mk 17 (.rd 18 (.mk 19 .fin)))))))))))))))))))) (fun _ => True) trivial (by kernel_rfl) (by kernel_rfl) (by kernel_rfl) (fun _ _ _ _ _ h => hpan.out _ _ _ _ _ h) ?_
  (repeat (first | refine wpT_move rfl ?_ | (refine wpT_rd rfl ?_; intro K hK; go_simp; refine hK _ _ _ ?_; clear hK K)))
  refine wpT_fk ?wa ?wb
  case' wa =>
    (refine wpT_mk rfl ?_; intro K hK; go_simp; refine ⟨fun _ => True, trivial, hK _ _ _ ?_⟩; clear hK K)
    (repeat (first | refine wpT_move rfl ?_ | (refine wpT_rd rfl ?_; intro K hK; go_simp; refine hK _ _ _ ?_; clear hK K)))
    (refine wpT_mk rfl ?_; intro K hK; go_simp; refine ⟨fun _ => True, trivial, hK _ _ _ ?_⟩; clear hK K)
    (repeat (first | refine wpT_move rfl ?_ | (refine wpT_rd rfl ?_; intro K hK; go_simp; refine hK _ _ _ ?_; clear hK K)))
    (refine wpT_mk rfl ?_; intro K hK; go_simp; refine ⟨fun _ => True, trivial, hK _ _ _ ?_⟩; clear hK K)
    (repeat (first | refine wpT_move rfl ?_ | (refine wpT_rd rfl ?_; intro K hK; go_simp; refine hK _ _ _ ?_; clear hK K)))
    (refine wpT_mk rfl ?_; intro K hK; go_simp; refine ⟨fun _ => True, trivial, hK _ _ _ ?_⟩; clear hK K)
    refine wpT_fin ?_
    exact hk.out _ _ _ _ _ _ _ _ _ _ _ _ _ _ _ _ _ _ _ rfl
  case' wb =>
    (refine wpT_mk rfl ?_; intro K hK; go_simp; refine ⟨fun _ => True, trivial, hK _ _ _ ?_⟩; clear hK K)
    (repeat (first | refine wpT_move rfl ?_ | (refine wpT_rd rfl ?_; intro K hK; go_simp; refine hK _ _ _ ?_; clear hK K)))
    (refine wpT_mk rfl ?_; intro K hK; go_simp; refine ⟨fun _ => True, trivial, hK _ _ _ ?_⟩; clear hK K)
    (repeat (first | refine wpT_move rfl ?_ | (refine wpT_rd rfl ?_; intro K hK; go_simp; refine hK _ _ _ ?_; clear hK K)))
    (refine wpT_mk rfl ?_; intro K hK; go_simp; refine ⟨fun _ => True, trivial, hK _ _ _ ?_⟩; clear hK K)
    (repeat (first | refine wpT_move rfl ?_ | (refine wpT_rd rfl ?_; intro K hK; go_simp; refine hK _ _ _ ?_; clear hK K)))
    (refine wpT_mk rfl ?_; intro K hK; go_simp; refine ⟨fun _ => True, trivial, hK _ _ _ ?_⟩; clear hK K)
    refine wpT_fin ?_
    exact hk.out _ _ _ _ _ _ _ _ _ _ _ _ _ _ _ _ _ _ _ rfl

set_option maxHeartbeats 4000000 in
set_option maxRecDepth 100000 in
theorem em_stores2 (w7 : World) (n g c1 k i li lk : Nat) (hin : i < n) (hkn : k < n) (hlk1 : lk ≤ 100) (hli1 : li ≤ 100) (hli : w7.cell? ⟨g, i, none⟩ = some (.int .i64 (li : Int))) (hlk : w7.cell? ⟨g, k, none⟩ = some (.int .i64 (lk : Int)))
    (fz1 : w7.frozen? ⟨g, i, none⟩ = false) (fz2 : w7.frozen? ⟨g, k, none⟩ = false) (hne : i ≠ k) (hl2 : 2 ≤ li) (hk2 : 2 ≤ lk)
    (s0 s1 s2 s4 s5 s6 s10 s11 s12 s13 s14 s15 s16 s17 s18 s19 s20 s21 s22 s23 s24 s25 s26 s27 s28 s29 s30 s31 s32 s33 s34 s35 s36 s37 s38 s39 s40 s41 s42 s43 s44 s45 s46 s47 s48 s49 s50 s51 s52 s53 s54 s55 s56 s57 s58 s59 s60 s61 s62 s63 s64 s65 s66 s67 s68 s69 s70 s71 s72 s73 s74 s75 s76 s77 s78 s79 s80 s81 s82 s83 s84 s85 s86 s87 s88 s89 s90 s91 s92 s93 s94 s95 s96 s97 s98 s99 s100 s101 s102 s103 s104 s105 s106 s107 s108 s109 s110 s111 s112 s113 s114 s115 s116 s117 s118 s119 s120 s121 s122 s123 s124 s125 s126 s127 s128 s129 s130 s131 s132 s133 s134 s135 s136 : Value) (Q : Exit → Act → World → Prop) (hpan : ∀ c a d v w, Q (.panic c) (Act.put a d v) w → Q (.panic c) a w)
    (hk : ∀ (v107 v108 v109 v110 v111 v112 v113 v114 v115 v116 v117 v118 v119 v120 v121 v122 v123 v124 : Value) (wq : World), wq = ((w7.setCell ⟨g, i, none⟩ (.int .i64 ((li : Int) - 2))).setCell ⟨g, k, none⟩ (.int .i64 ((lk : Int) - 2))).drew → Q .normal ⟨(s0 :: s1 :: s2 :: .slice (some ⟨g, 0, none⟩) n c1 :: s4 :: s5 :: s6 :: .int .i64 (k : Int) :: .int .i64 (i : Int) :: .int .i64 2 :: s10 :: s11 :: s12 :: s13 :: s14 :: s15 :: s16 :: s17 :: s18 :: s19 :: s20 :: s21 :: s22 :: s23 :: s24 :: s25 :: s26 :: s27 :: s28 :: s29 :: s30 :: s31 :: s32 :: s33 :: s34 :: s35 :: s36 :: s37 :: s38 :: s39 :: s40 :: s41 :: s42 :: s43 :: s44 :: s45 :: s46 :: s47 :: s48 :: s49 :: s50 :: s51 :: s52 :: s53 :: s54 :: s55 :: s56 :: s57 :: s58 :: s59 :: s60 :: s61 :: s62 :: s63 :: s64 :: s65 :: s66 :: s67 :: s68 :: s69 :: s70 :: s71 :: s72 :: s73 :: s74 :: s75 :: s76 :: s77 :: s78 :: s79 :: s80 :: s81 :: s82 :: s83 :: s84 :: s85 :: s86 :: s87 :: s88 :: s89 :: s90 :: s91 :: s92 :: s93 :: s94 :: s95 :: s96 :: s97 :: s98 :: s99 :: s100 :: s101 :: s102 :: s103 :: s104 :: s105 :: s106 :: v107 :: v108 :: v109 :: v110 :: v111 :: v112 :: v113 :: v114 :: v115 :: v116 :: v117 :: v118 :: v119 :: v120 :: v121 :: v122 :: v123 :: v124 :: s125 :: s126 :: s127 :: s128 :: s129 :: s130 :: s131 :: s132 :: s133 :: s134 :: s135 :: s136 :: []).toArray, []⟩ wq) :
    Code.wp Tryz.prog (regionAt Tryz.f56 20) Q ⟨(s0 :: s1 :: s2 :: .slice (some ⟨g, 0, none⟩) n c1 :: s4 :: s5 :: s6 :: .int .i64 (k : Int) :: .int .i64 (i : Int) :: .int .i64 2 :: s10 :: s11 :: s12 :: s13 :: s14 :: s15 :: s16 :: s17 :: s18 :: s19 :: s20 :: s21 :: s22 :: s23 :: s24 :: s25 :: s26 :: s27 :: s28 :: s29 :: s30 :: s31 :: s32 :: s33 :: s34 :: s35 :: s36 :: s37 :: s38 :: s39 :: s40 :: s41 :: s42 :: s43 :: s44 :: s45 :: s46 :: s47 :: s48 :: s49 :: s50 :: s51 :: s52 :: s53 :: s54 :: s55 :: s56 :: s57 :: s58 :: s59 :: s60 :: s61 :: s62 :: s63 :: s64 :: s65 :: s66 :: s67 :: s68 :: s69 :: s70 :: s71 :: s72 :: s73 :: s74 :: s75 :: s76 :: s77 :: s78 :: s79 :: s80 :: s81 :: s82 :: s83 :: s84 :: s85 :: s86 :: s87 :: s88 :: s89 :: s90 :: s91 :: s92 :: s93 :: s94 :: s95 :: s96 :: s97 :: s98 :: s99 :: s100 :: s101 :: s102 :: s103 :: s104 :: s105 :: s106 :: s107 :: s108 :: s109 :: s110 :: s111 :: s112 :: s113 :: s114 :: s115 :: s116 :: s117 :: s118 :: s119 :: s120 :: s121 :: s122 :: s123 :: s124 :: s125 :: s126 :: s127 :: s128 :: s129 :: s130 :: s131 :: s132 :: s133 :: s134 :: s135 :: s136 :: []).toArray, []⟩ w7 := by
  have hwr1 : IntKind.i64.wrap ((li : Int) - 2) = (li : Int) - 2 := by rw [IntKind.wrap_i64]; omega
  have hwr2 : IntKind.i64.wrap ((lk : Int) - 2) = (lk : Int) - 2 := by rw [IntKind.wrap_i64]; omega
  have hlk' : (w7.setCell ⟨g, i, none⟩ (.int .i64 ((li : Int) - 2))).cell? ⟨g, k, none⟩ = some (.int .i64 (lk : Int)) := by
    rw [World.cell?_setCell_other w7 ⟨g, i, none⟩ ⟨g, k, none⟩ _ (by intro h; injection h with _ h2 _; exact hne h2)]; exact hlk
  replace hk := Lib.hid hk
  replace hpan := Lib.hid hpan
  conv => arg 2; whnf
  refine wp_region_tree (.rd 0 (.rd 1 (.rd 2 (.rd 3 (.rd 4 (.rd 5 (.rd 6 (.rd 8 (.rd 10 (.rd 11 (.rd 12 (.rd 14 (.fk 7 (.rd 9 (.mk 13 (.rd 15 (.rd 16 (.mk 17 (.rd 18 (.mk 19 .fin))))))) 13 (.rd 15 (.mk 7 (.rd 9 (.rd 16 (.mk 17 (.rd 18 (.mk 19 .fin)))))))))))))))))))) (fun _ => True) trivial (by kernel_rfl) (by kernel_rfl) (by kernel_rfl) (fun _ _ _ _ _ h => hpan.out _ _ _ _ _ h) ?_
  (repeat (first | refine wpT_move rfl ?_ | (refine wpT_rd rfl ?_; intro K hK; go_simp; refine hK _ _ _ ?_; clear hK K)))
  refine wpT_fk ?wa ?wb
  case' wa =>
    (refine wpT_mk rfl ?_; intro K hK; go_simp; refine ⟨fun _ => True, trivial, hK _ _ _ ?_⟩; clear hK K)
    (repeat (first | refine wpT_move rfl ?_ | (refine wpT_rd rfl ?_; intro K hK; go_simp; refine hK _ _ _ ?_; clear hK K)))
    (refine wpT_mk rfl ?_; intro K hK; go_simp; refine ⟨fun _ => True, trivial, hK _ _ _ ?_⟩; clear hK K)
    (repeat (first | refine wpT_move rfl ?_ | (refine wpT_rd rfl ?_; intro K hK; go_simp; refine hK _ _ _ ?_; clear hK K)))
    (refine wpT_mk rfl ?_; intro K hK; go_simp; refine ⟨fun _ => True, trivial, hK _ _ _ ?_⟩; clear hK K)
    (repeat (first | refine wpT_move rfl ?_ | (refine wpT_rd rfl ?_; intro K hK; go_simp; refine hK _ _ _ ?_; clear hK K)))
    (refine wpT_mk rfl ?_; intro K hK; go_simp; refine ⟨fun _ => True, trivial, hK _ _ _ ?_⟩; clear hK K)
    refine wpT_fin ?_
    exact hk.out _ _ _ _ _ _ _ _ _ _ _ _ _ _ _ _ _ _ _ rfl
  case' wb =>
    (refine wpT_mk rfl ?_; intro K hK; go_simp; refine ⟨fun _ => True, trivial, hK _ _ _ ?_⟩; clear hK K)
    (repeat (first | refine wpT_move rfl ?_ | (refine wpT_rd rfl ?_; intro K hK; go_simp; refine hK _ _ _ ?_; clear hK K)))
    (refine wpT_mk rfl ?_; intro K hK; go_simp; refine ⟨fun _ => True, trivial, hK _ _ _ ?_⟩; clear hK K)
    (repeat (first | refine wpT_move rfl ?_ | (refine wpT_rd rfl ?_; intro K hK; go_simp; refine hK _ _ _ ?_; clear hK K)))
    (refine wpT_mk rfl ?_; intro K hK; go_simp; refine ⟨fun _ => True, trivial, hK _ _ _ ?_⟩; clear hK K)
    (repeat (first | refine wpT_move rfl ?_ | (refine wpT_rd rfl ?_; intro K hK; go_simp; refine hK _ _ _ ?_; clear hK K)))
    (refine wpT_mk rfl ?_; intro K hK; go_simp; refine ⟨fun _ => True, trivial, hK _ _ _ ?_⟩; clear hK K)
    refine wpT_fin ?_
    exact hk.out _ _ _ _ _ _ _ _ _ _ _ _ _ _ _ _ _ _ _ rfl

end Go.Proofs.YtkfhkfagmokjpaaGreatDoor

namespace Go.Proofs.YtkfhkfagmokjpaaGreatDoor
open Go.RowKit
attribute [local go_sem] canOp readsAs readUpon

/-- what the loop keeps -/
def InAt (l : List Em.R) (w0 : World) (g c1 k : Nat) (fin : Em.St) (ov : Value) (wr : World) : Prop :=
  ∃ (L : List Nat) (out : List (Nat × Nat × Nat)), Hid (EmAt w0 l.length g c1 L ov out wr) ∧ Hid (Em.inner l k (L, out) = fin) ∧ Hid (Em.Bi k (L, out))

set_option maxHeartbeats 8000000 in
set_option maxRecDepth 100000 in
theorem em_inner (l : List Em.R) (b o c g c1 k : Nat) (w0 wi : World) (L0 : List Nat) (ov0 : Value) (out0 : List (Nat × Nat × Nat)) (hkl : k < l.length) (hlen : l.length ≤ 4000000) (hR : RunsAt l b o w0) (hM : EmAt w0 l.length g c1 L0 ov0 out0 wi) (hB0 : Em.Bi k (L0, out0))
    (s1 s2 s4 s5 s8 s9 s10 s11 s12 s13 s14 s15 s16 s17 s18 s19 s20 s21 s22 s23 s24 s25 s26 s27 s28 s29 s30 s31 s32 s33 s34 s35 s36 s37 s38 s39 s40 s41 s42 s43 s44 s45 s46 s47 s48 s49 s50 s51 s52 s53 s54 s55 s56 s57 s58 s59 s60 s61 s62 s63 s64 s65 s66 s67 s68 s69 s70 s71 s72 s73 s74 s75 s76 s77 s78 s79 s80 s81 s82 s83 s84 s85 s86 s87 s88 s89 s90 s91 s92 s93 s94 s95 s96 s97 s98 s99 s100 s101 s102 s103 s104 s105 s106 s107 s108 s109 s110 s111 s112 s113 s114 s115 s116 s117 s118 s119 s120 s121 s122 s123 s124 s125 s126 s127 s128 s129 s130 s131 s132 s133 s134 s135 s136 : Value) (Q0 : Exit → Act → World → Prop) (hpan : ∀ c a d v w, Q0 (.panic c) (Act.put a d v) w → Q0 (.panic c) a w)
    (hexit : ∀ (u8 u9 u10 u29 u30 u31 u32 u33 u34 u35 u36 u37 u38 u39 u40 u41 u42 u43 u44 u45 u46 u47 u48 u49 u50 u51 u52 u53 u54 u55 u56 u57 u58 u59 u60 u61 u62 u63 u64 u65 u66 u67 u68 u69 u70 u71 u72 u73 u74 u75 u76 u77 u78 u79 u80 u81 u82 u83 u84 u85 u86 u87 u88 u89 u90 u91 u92 u93 u94 u95 u96 u97 u98 u99 u100 u101 u102 u103 u104 u105 u106 u107 u108 u109 u110 u111 u112 u113 u114 u115 u116 u117 u118 u119 u120 u121 u122 u123 u124 u125 u126 u127 u128 u129 u130 u131 u132 u133 u134 : Value) (ov : Value) (L : List Nat) (out : List (Nat × Nat × Nat)) (wq : World), EmAt w0 l.length g c1 L ov out wq → Em.inner l k (L0, out0) = (L, out) → Em.Bi k (L, out) → Q0 (.exit 4) ⟨(.slice (some ⟨b, o, none⟩) l.length c :: s1 :: s2 :: .slice (some ⟨g, 0, none⟩) l.length c1 :: s4 :: s5 :: ov :: .int .i64 (k : Int) :: u8 :: u9 :: u10 :: s11 :: s12 :: s13 :: s14 :: s15 :: s16 :: s17 :: s18 :: s19 :: s20 :: s21 :: s22 :: s23 :: s24 :: s25 :: s26 :: s27 :: s28 :: u29 :: u30 :: u31 :: u32 :: u33 :: u34 :: u35 :: u36 :: u37 :: u38 :: u39 :: u40 :: u41 :: u42 :: u43 :: u44 :: u45 :: u46 :: u47 :: u48 :: u49 :: u50 :: u51 :: u52 :: u53 :: u54 :: u55 :: u56 :: u57 :: u58 :: u59 :: u60 :: u61 :: u62 :: u63 :: u64 :: u65 :: u66 :: u67 :: u68 :: u69 :: u70 :: u71 :: u72 :: u73 :: u74 :: u75 :: u76 :: u77 :: u78 :: u79 :: u80 :: u81 :: u82 :: u83 :: u84 :: u85 :: u86 :: u87 :: u88 :: u89 :: u90 :: u91 :: u92 :: u93 :: u94 :: u95 :: u96 :: u97 :: u98 :: u99 :: u100 :: u101 :: u102 :: u103 :: u104 :: u105 :: u106 :: u107 :: u108 :: u109 :: u110 :: u111 :: u112 :: u113 :: u114 :: u115 :: u116 :: u117 :: u118 :: u119 :: u120 :: u121 :: u122 :: u123 :: u124 :: u125 :: u126 :: u127 :: u128 :: u129 :: u130 :: u131 :: u132 :: u133 :: u134 :: s135 :: s136 :: []).toArray, []⟩ wq) :
    Code.wp Tryz.prog (Code.loop (loopBody Tryz.f56 2)) Q0 ⟨(.slice (some ⟨b, o, none⟩) l.length c :: s1 :: s2 :: .slice (some ⟨g, 0, none⟩) l.length c1 :: s4 :: s5 :: ov0 :: .int .i64 (k : Int) :: s8 :: s9 :: s10 :: s11 :: s12 :: s13 :: s14 :: s15 :: s16 :: s17 :: s18 :: s19 :: s20 :: s21 :: s22 :: s23 :: s24 :: s25 :: s26 :: s27 :: s28 :: s29 :: s30 :: s31 :: s32 :: s33 :: s34 :: s35 :: s36 :: s37 :: s38 :: s39 :: s40 :: s41 :: s42 :: s43 :: s44 :: s45 :: s46 :: s47 :: s48 :: s49 :: s50 :: s51 :: s52 :: s53 :: s54 :: s55 :: s56 :: s57 :: s58 :: s59 :: s60 :: s61 :: s62 :: s63 :: s64 :: s65 :: s66 :: s67 :: s68 :: s69 :: s70 :: s71 :: s72 :: s73 :: s74 :: s75 :: s76 :: s77 :: s78 :: s79 :: s80 :: s81 :: s82 :: s83 :: s84 :: s85 :: s86 :: s87 :: s88 :: s89 :: s90 :: s91 :: s92 :: s93 :: s94 :: s95 :: s96 :: s97 :: s98 :: s99 :: s100 :: s101 :: s102 :: s103 :: s104 :: s105 :: s106 :: s107 :: s108 :: s109 :: s110 :: s111 :: s112 :: s113 :: s114 :: s115 :: s116 :: s117 :: s118 :: s119 :: s120 :: s121 :: s122 :: s123 :: s124 :: s125 :: s126 :: s127 :: s128 :: s129 :: s130 :: s131 :: s132 :: s133 :: s134 :: s135 :: s136 :: []).toArray, []⟩ wi := by
  replace hexit := Lib.hid hexit
  replace hR := Lib.hid hR
  replace hM := Lib.hid hM
  replace hB0 := Lib.hid hB0
  replace hpan := Lib.hid hpan
  obtain ⟨fin, hfin⟩ : ∃ fin, fin = Em.inner l k (L0, out0) := ⟨_, rfl⟩
  rw [← hfin] at hexit
  have hIn : InAt l w0 g c1 k fin ov0 wi := ⟨L0, out0, hM, Lib.hid hfin.symm, hB0⟩
  clear hfin hM hB0
  conv => arg 2; arg 1; whnf
  go_loopw [6] (fun ov wr => InAt l w0 g c1 k fin ov wr) (fun _ wr => match wr.cell? ⟨g, k, none⟩ with | some (.int _ n) => n.toNat | _ => 0)
  case atStart => exact hIn
  case round =>
    clear hIn
    obtain ⟨L, out, hA, hfi, hbi⟩ := hrel
    have hRr := Lib.hid (hR.out.ext hA.out.below)
    obtain ⟨x0, x1, x2, d3⟩ := hRr.out.2 k hkl
    clear x0 x1 x2
    have hbw := hRr.out.1
    have hgw := hA.out.lt.2
    have hLl := hA.out.len
    have hLk : k < L.length := by omega
    have e1 := hA.out.leftAt.2 k hLk
    have hgk : Em.get l k = l[k] := Em.get_at hkl
    have hlfk : Em.lf L k = L[k] := Em.lf_at hLk
    cases hcl : l[k].c with
    | false =>
      rw [hcl] at d3
      have hst : Hid (Em.inner l k (L, out) = (L, out)) := Lib.hid (Em.inner_stop (fun h => by rw [hgk, hcl] at h; exact absurd h.1 (by decide)))
      clear hgk hlfk
      go_wp2_with fail
      exact hexit.out _ _ _ _ _ _ _ _ _ _ _ _ _ _ _ _ _ _ _ _ _ _ _ _ _ _ _ _ _ _ _ _ _ _ _ _ _ _ _ _ _ _ _ _ _ _ _ _ _ _ _ _ _ _ _ _ _ _ _ _ _ _ _ _ _ _ _ _ _ _ _ _ _ _ _ _ _ _ _ _ _ _ _ _ _ _ _ _ _ _ _ _ _ _ _ _ _ _ _ _ _ _ _ _ _ _ _ _ _ _ L out _ hA.out (by rw [← hfi.out, hst.out]) hbi.out
    | true =>
      rw [hcl] at d3
      rcases Nat.eq_zero_or_pos L[k] with h0 | h0
      · have hst : Hid (Em.inner l k (L, out) = (L, out)) := Lib.hid (Em.inner_stop (fun h => by have := h.2; simp only at this; omega))
        rw [h0] at e1
        clear hgk hlfk
        go_wp2_with fail
        exact hexit.out _ _ _ _ _ _ _ _ _ _ _ _ _ _ _ _ _ _ _ _ _ _ _ _ _ _ _ _ _ _ _ _ _ _ _ _ _ _ _ _ _ _ _ _ _ _ _ _ _ _ _ _ _ _ _ _ _ _ _ _ _ _ _ _ _ _ _ _ _ _ _ _ _ _ _ _ _ _ _ _ _ _ _ _ _ _ _ _ _ _ _ _ _ _ _ _ _ _ _ _ _ _ _ _ _ _ _ _ _ _ L out _ hA.out (by rw [← hfi.out, hst.out]) hbi.out
      · have hpos : (0 : Int) < (L[k] : Int) := by omega
        have hinc : Hid ((Em.get l k).c = true) := Lib.hid (by rw [hgk, hcl])
        have hpk : Hid (0 < Em.lf L k) := Lib.hid (by rw [hlfk]; exact h0)
        clear hgk hlfk
        go_wp2_with fail
        refine em_search l L b o c g c1 k _ hkl hLl hlen hRr.out hA.out.leftAt _ _ _ _ _ _ _ _ _ _ _ _ _ _ _ _ _ _ _ _ _ _ _ _ _ _ _ _ _ _ _ _ _ _ _ _ _ _ _ _ _ _ _ _ _ _ _ _ _ _ _ _ _ _ _ _ _ _ _ _ _ _ _ _ _ _ _ _ _ _ _ _ _ _ _ _ _ _ _ _ _ _ _ _ _ _ _ _ _ _ _ _ _ _ _ _ _ _ _ _ _ _ _ _ _ _ _ _ _ _ _ _ _ _ _ _ _ _ _ _ _ _ _ _ _ _ _ _ _ _ _ _ _ _ (fun _ _ _ _ _ h => hpan.out _ _ _ _ _ h) ?_
        intro v43 v44 v45 v46 v47 v48 v49 v50 v51 v52 v53 v54 v55 v56 v57 v58 v59 v60 v61 v62 v63 v64 v65 v66 v67 v68 v69 v70 v71 v72 v73 v74 v75 v76 v77 v78 v79 v80 v81 v82 v83 v84 v85 z wq hbq hfound
        replace hbq := Lib.hid hbq
        rcases hfound with ⟨rfl, hno⟩ | ⟨i, rfl, hik, hyes⟩
        · have hst : Hid (Em.inner l k (L, out) = (L, out)) := Lib.hid (Em.inner_none hno)
          clear hno d3 e1
          go_wp2_with fail
          exact hexit.out _ _ _ _ _ _ _ _ _ _ _ _ _ _ _ _ _ _ _ _ _ _ _ _ _ _ _ _ _ _ _ _ _ _ _ _ _ _ _ _ _ _ _ _ _ _ _ _ _ _ _ _ _ _ _ _ _ _ _ _ _ _ _ _ _ _ _ _ _ _ _ _ _ _ _ _ _ _ _ _ _ _ _ _ _ _ _ _ _ _ _ _ _ _ _ _ _ _ _ _ _ _ _ _ _ _ _ _ _ _ L out _ (hA.out.ext hbq.out) (by rw [← hfi.out, hst.out]) hbi.out
        · have hA2 := Lib.hid (hA.out.ext hbq.out)
          have hiL : i < L.length := by omega
          have y1 := hA2.out.leftAt.2 i hiL
          have y2 := hA2.out.leftAt.2 k hLk
          have hgw2 := hA2.out.lt.2
          have hz2 := hA2.out.below.size
          have hil : i < l.length := by omega
          obtain ⟨hio, hiok⟩ := Em.opener_spec _ hyes
          have hlfi : Em.lf L i = L[i] := Em.lf_at hiL
          have hlfk : Em.lf L k = L[k] := Em.lf_at hLk
          have hpi : 0 < L[i] := by
            simp only [Em.ok, Bool.and_eq_true, decide_eq_true_eq] at hiok
            rw [← hlfi]; exact hiok.1.2
          have hb100 := hbi.out.1
          have hli100 : L[i] ≤ 100 := by rw [← hlfi]; exact hb100 i
          have hlk100 : L[k] ≤ 100 := by rw [← hlfk]; exact hb100 k
          have hol : out.length ≤ 100 * 4000001 := by have := hbi.out.2; simp only at this; omega
          have hstep : Hid (Em.inner l k (L, out) = Em.inner l k (Em.lower L i k (Em.size L i k), out ++ [(i, k, Em.size L i k)])) := Lib.hid (Em.inner_step hinc.out hpk.out hyes)
          have hbi2 : Hid (Em.Bi k (Em.lower L i k (Em.size L i k), out ++ [(i, k, Em.size L i k)])) := Lib.hid (Em.bi_step hbi.out hpk.out)
          have hwz : Hid (∀ s, Em.wiped L i k s (i + 1) = (L.set i (L[i] - s)).set k (L[k] - s)) := Lib.hid (fun s => by rw [Em.wiped_zero hik (by omega), hlfi, hlfk])
          have hszd : Hid (Em.size L i k = if 1 < L[i] ∧ 1 < L[k] then 2 else 1) := Lib.hid (by unfold Em.size; rw [hlfi, hlfk])
          have hmz : Hid ((match wr.cell? ⟨g, k, none⟩ with | some (.int _ n) => n.toNat | _ => 0) = L[k]) := Lib.hid (by rw [e1]; simp)
          have hlow : Hid (∀ s, 1 ≤ s → Em.lf (Em.lower L i k s) k < L[k]) := Lib.hid (fun s hs => by rw [Em.lf_lower_c hpk.out, hlfk]; omega)
          clear hio hiok hlfi hlfk hb100 hyes e1 d3 hLl hgw
          obtain ⟨wo, rfl⟩ : ∃ wo : World, wo = wr := ⟨_, rfl⟩
          have hcase : (¬ 1 < L[i] ∧ Em.size L i k = 1) ∨ (1 < L[i] ∧ ¬ 1 < L[k] ∧ Em.size L i k = 1) ∨ (1 < L[i] ∧ 1 < L[k] ∧ Em.size L i k = 2) := by
            by_cases q1 : 1 < L[i]
            · by_cases q2 : 1 < L[k]
              · exact .inr (.inr ⟨q1, q2, by rw [hszd.out, if_pos ⟨q1, q2⟩]⟩)
              · exact .inr (.inl ⟨q1, q2, by rw [hszd.out, if_neg (by omega)]⟩)
            · exact .inl ⟨q1, by rw [hszd.out, if_neg (by omega)]⟩
          have hnz : (i : Int) < (k : Int) := by omega
          rcases hcase with ⟨q1, hsz⟩ | ⟨q1, q2, hsz⟩ | ⟨q1, q2, hsz⟩
          · rw [hsz] at hstep hbi2
            replace hsz := Lib.hid hsz
            go_wp2_with (at_builtin; refine wpList_app_two rfl (.tmp 100) (.tmp 105) rfl pairEI rfl hA2.out.pairs rfl (by simp) rfl (by intro u hu; simp at hu; rcases hu with rfl | rfl | rfl <;> rfl) (by omega) (by omega) (by omega) ?_; intro ov7 w7 ho7 hg7 hb7 hat7)
            have hA7 := (hA2.out.push (x := (i, k, 1)) ho7 rfl hg7.out hb7 hat7.out)
            have y7 := hA7.leftAt.2 i hiL
            have z7 := hA7.leftAt.2 k hLk
            have fz1 := hA7.fz i
            have fz2 := hA7.fz k
            have gw7 := hA7.lt.2
            have hA8 := ((hA7.set i (L[i] - 1)).set k (L[k] - 1)).ext (ext_drew _)
            rw [← hwz.out, show ((L[i] - 1 : Nat) : Int) = (L[i] : Int) - 1 from by omega, show ((L[k] - 1 : Nat) : Int) = (L[k] : Int) - 1 from by omega] at hA8
            replace hA8 := Lib.hid hA8
            replace hA7 := Lib.hid hA7
            have hwr1 : IntKind.i64.wrap ((L[i] : Int) - 1) = (L[i] : Int) - 1 := by rw [IntKind.wrap_i64]; omega
            have hwr2 : IntKind.i64.wrap ((L[k] : Int) - 1) = (L[k] : Int) - 1 := by rw [IntKind.wrap_i64]; omega
            have hgt2 := hlow.out 1 (by omega)
            clear y1 y2
            go_wp2_with fail
            refine em_stores1 w7 l.length g c1 k i L[i] L[k] (by omega) hkl hlk100 hli100 y7 z7 fz1 fz2 (by omega) (by omega) (by omega) _ _ _ _ _ _ _ _ _ _ _ _ _ _ _ _ _ _ _ _ _ _ _ _ _ _ _ _ _ _ _ _ _ _ _ _ _ _ _ _ _ _ _ _ _ _ _ _ _ _ _ _ _ _ _ _ _ _ _ _ _ _ _ _ _ _ _ _ _ _ _ _ _ _ _ _ _ _ _ _ _ _ _ _ _ _ _ _ _ _ _ _ _ _ _ _ _ _ _ _ _ _ _ _ _ _ _ _ _ _ _ _ _ _ _ _ _ _ _ _ _ _ _ _ _ _ _ _ _ _ _ _ _ _ (fun _ _ _ _ _ h => hpan.out _ _ _ _ _ h) ?_
            intro v107 v108 v109 v110 v111 v112 v113 v114 v115 v116 v117 v118 v119 v120 v121 v122 v123 v124 w8 hw8
            rw [← hw8] at hA8
            clear hw8 y7 z7 fz1 fz2 gw7
            go_wp2_with fail
            refine em_wipe w0 _ l.length g c1 k i 1 L ov7 (out ++ [(i, k, 1)]) hik hkl hlen hA8.out _ _ _ _ _ _ _ _ _ _ _ _ _ _ _ _ _ _ _ _ _ _ _ _ _ _ _ _ _ _ _ _ _ _ _ _ _ _ _ _ _ _ _ _ _ _ _ _ _ _ _ _ _ _ _ _ _ _ _ _ _ _ _ _ _ _ _ _ _ _ _ _ _ _ _ _ _ _ _ _ _ _ _ _ _ _ _ _ _ _ _ _ _ _ _ _ _ _ _ _ _ _ _ _ _ _ _ _ _ _ _ _ _ _ _ _ _ _ _ _ _ _ _ _ _ _ _ _ _ _ _ _ _ _ _ ?_
            intro v127 v128 v129 v130 v131 v132 v133 v134 wz hAz
            have hmz2 := left_cell hAz.left (k := k) (by rw [Em.lower_len]; omega)
            replace hAz := Lib.hid hAz
            go_wp2_with fail
            go_roundw
            case rel => exact ⟨_, _, hAz, Lib.hid (by rw [← hfi.out, hstep.out]), hbi2⟩
            case measure =>
              rw [hmz.out, hmz2]
              have := Em.lf_at (L := Em.lower L i k 1) (i := k) (by rw [Em.lower_len]; omega)
              simp only
              omega
          · rw [hsz] at hstep hbi2
            replace hsz := Lib.hid hsz
            go_wp2_with (at_builtin; refine wpList_app_two rfl (.tmp 100) (.tmp 105) rfl pairEI rfl hA2.out.pairs rfl (by simp) rfl (by intro u hu; simp at hu; rcases hu with rfl | rfl | rfl <;> rfl) (by omega) (by omega) (by omega) ?_; intro ov7 w7 ho7 hg7 hb7 hat7)
            have hA7 := (hA2.out.push (x := (i, k, 1)) ho7 rfl hg7.out hb7 hat7.out)
            have y7 := hA7.leftAt.2 i hiL
            have z7 := hA7.leftAt.2 k hLk
            have fz1 := hA7.fz i
            have fz2 := hA7.fz k
            have gw7 := hA7.lt.2
            have hA8 := ((hA7.set i (L[i] - 1)).set k (L[k] - 1)).ext (ext_drew _)
            rw [← hwz.out, show ((L[i] - 1 : Nat) : Int) = (L[i] : Int) - 1 from by omega, show ((L[k] - 1 : Nat) : Int) = (L[k] : Int) - 1 from by omega] at hA8
            replace hA8 := Lib.hid hA8
            replace hA7 := Lib.hid hA7
            have hwr1 : IntKind.i64.wrap ((L[i] : Int) - 1) = (L[i] : Int) - 1 := by rw [IntKind.wrap_i64]; omega
            have hwr2 : IntKind.i64.wrap ((L[k] : Int) - 1) = (L[k] : Int) - 1 := by rw [IntKind.wrap_i64]; omega
            have hgt2 := hlow.out 1 (by omega)
            clear y1 y2
            go_wp2_with fail
            refine em_stores1 w7 l.length g c1 k i L[i] L[k] (by omega) hkl hlk100 hli100 y7 z7 fz1 fz2 (by omega) (by omega) (by omega) _ _ _ _ _ _ _ _ _ _ _ _ _ _ _ _ _ _ _ _ _ _ _ _ _ _ _ _ _ _ _ _ _ _ _ _ _ _ _ _ _ _ _ _ _ _ _ _ _ _ _ _ _ _ _ _ _ _ _ _ _ _ _ _ _ _ _ _ _ _ _ _ _ _ _ _ _ _ _ _ _ _ _ _ _ _ _ _ _ _ _ _ _ _ _ _ _ _ _ _ _ _ _ _ _ _ _ _ _ _ _ _ _ _ _ _ _ _ _ _ _ _ _ _ _ _ _ _ _ _ _ _ _ _ (fun _ _ _ _ _ h => hpan.out _ _ _ _ _ h) ?_
            intro v107 v108 v109 v110 v111 v112 v113 v114 v115 v116 v117 v118 v119 v120 v121 v122 v123 v124 w8 hw8
            rw [← hw8] at hA8
            clear hw8 y7 z7 fz1 fz2 gw7
            go_wp2_with fail
            refine em_wipe w0 _ l.length g c1 k i 1 L ov7 (out ++ [(i, k, 1)]) hik hkl hlen hA8.out _ _ _ _ _ _ _ _ _ _ _ _ _ _ _ _ _ _ _ _ _ _ _ _ _ _ _ _ _ _ _ _ _ _ _ _ _ _ _ _ _ _ _ _ _ _ _ _ _ _ _ _ _ _ _ _ _ _ _ _ _ _ _ _ _ _ _ _ _ _ _ _ _ _ _ _ _ _ _ _ _ _ _ _ _ _ _ _ _ _ _ _ _ _ _ _ _ _ _ _ _ _ _ _ _ _ _ _ _ _ _ _ _ _ _ _ _ _ _ _ _ _ _ _ _ _ _ _ _ _ _ _ _ _ _ ?_
            intro v127 v128 v129 v130 v131 v132 v133 v134 wz hAz
            have hmz2 := left_cell hAz.left (k := k) (by rw [Em.lower_len]; omega)
            replace hAz := Lib.hid hAz
            go_wp2_with fail
            go_roundw
            case rel => exact ⟨_, _, hAz, Lib.hid (by rw [← hfi.out, hstep.out]), hbi2⟩
            case measure =>
              rw [hmz.out, hmz2]
              have := Em.lf_at (L := Em.lower L i k 1) (i := k) (by rw [Em.lower_len]; omega)
              simp only
              omega
          · rw [hsz] at hstep hbi2
            replace hsz := Lib.hid hsz
            go_wp2_with (at_builtin; refine wpList_app_two rfl (.tmp 100) (.tmp 105) rfl pairEI rfl hA2.out.pairs rfl (by simp) rfl (by intro u hu; simp at hu; rcases hu with rfl | rfl | rfl <;> rfl) (by omega) (by omega) (by omega) ?_; intro ov7 w7 ho7 hg7 hb7 hat7)
            have hA7 := (hA2.out.push (x := (i, k, 2)) ho7 rfl hg7.out hb7 hat7.out)
            have y7 := hA7.leftAt.2 i hiL
            have z7 := hA7.leftAt.2 k hLk
            have fz1 := hA7.fz i
            have fz2 := hA7.fz k
            have gw7 := hA7.lt.2
            have hA8 := ((hA7.set i (L[i] - 2)).set k (L[k] - 2)).ext (ext_drew _)
            rw [← hwz.out, show ((L[i] - 2 : Nat) : Int) = (L[i] : Int) - 2 from by omega, show ((L[k] - 2 : Nat) : Int) = (L[k] : Int) - 2 from by omega] at hA8
            replace hA8 := Lib.hid hA8
            replace hA7 := Lib.hid hA7
            have hwr1 : IntKind.i64.wrap ((L[i] : Int) - 2) = (L[i] : Int) - 2 := by rw [IntKind.wrap_i64]; omega
            have hwr2 : IntKind.i64.wrap ((L[k] : Int) - 2) = (L[k] : Int) - 2 := by rw [IntKind.wrap_i64]; omega
            have hgt2 := hlow.out 2 (by omega)
            clear y1 y2
            go_wp2_with fail
            refine em_stores2 w7 l.length g c1 k i L[i] L[k] (by omega) hkl hlk100 hli100 y7 z7 fz1 fz2 (by omega) (by omega) (by omega) _ _ _ _ _ _ _ _ _ _ _ _ _ _ _ _ _ _ _ _ _ _ _ _ _ _ _ _ _ _ _ _ _ _ _ _ _ _ _ _ _ _ _ _ _ _ _ _ _ _ _ _ _ _ _ _ _ _ _ _ _ _ _ _ _ _ _ _ _ _ _ _ _ _ _ _ _ _ _ _ _ _ _ _ _ _ _ _ _ _ _ _ _ _ _ _ _ _ _ _ _ _ _ _ _ _ _ _ _ _ _ _ _ _ _ _ _ _ _ _ _ _ _ _ _ _ _ _ _ _ _ _ _ _ (fun _ _ _ _ _ h => hpan.out _ _ _ _ _ h) ?_
            intro v107 v108 v109 v110 v111 v112 v113 v114 v115 v116 v117 v118 v119 v120 v121 v122 v123 v124 w8 hw8
            rw [← hw8] at hA8
            clear hw8 y7 z7 fz1 fz2 gw7
            go_wp2_with fail
            refine em_wipe w0 _ l.length g c1 k i 2 L ov7 (out ++ [(i, k, 2)]) hik hkl hlen hA8.out _ _ _ _ _ _ _ _ _ _ _ _ _ _ _ _ _ _ _ _ _ _ _ _ _ _ _ _ _ _ _ _ _ _ _ _ _ _ _ _ _ _ _ _ _ _ _ _ _ _ _ _ _ _ _ _ _ _ _ _ _ _ _ _ _ _ _ _ _ _ _ _ _ _ _ _ _ _ _ _ _ _ _ _ _ _ _ _ _ _ _ _ _ _ _ _ _ _ _ _ _ _ _ _ _ _ _ _ _ _ _ _ _ _ _ _ _ _ _ _ _ _ _ _ _ _ _ _ _ _ _ _ _ _ _ ?_
            intro v127 v128 v129 v130 v131 v132 v133 v134 wz hAz
            have hmz2 := left_cell hAz.left (k := k) (by rw [Em.lower_len]; omega)
            replace hAz := Lib.hid hAz
            go_wp2_with fail
            go_roundw
            case rel => exact ⟨_, _, hAz, Lib.hid (by rw [← hfi.out, hstep.out]), hbi2⟩
            case measure =>
              rw [hmz.out, hmz2]
              have := Em.lf_at (L := Em.lower L i k 2) (i := k) (by rw [Em.lower_len]; omega)
              simp only
              omega

end Go.Proofs.YtkfhkfagmokjpaaGreatDoor

namespace Go.Proofs.YtkfhkfagmokjpaaGreatDoor
open Go.RowKit

set_option maxHeartbeats 4000000 in
set_option maxRecDepth 100000 in
theorem rmatch_any (l : List Em.R) (A : Option Addr) (c : Nat) (w : World) (h : Row w w.heap.size 4 A l.length (acells l)) (hl : l.length ≤ 4000000) :
    Calls Tryz.prog 56 #[.slice A l.length c] w fun e w' => (∃ v, e = .returned v ∧ w'.ownsRow w.heap.size 108 3 v (Em.pairs l).length (pcells (Em.pairs l))) ∧ Below w.heap.size w w' := by
  have hR := Lib.hid h
  clear h
  go_enter Tryz.func56, Tryz.ntmps56
  go_wp2_with fail
  go_loopw [3, 13] (fun v i wr => ∃ k : Nat, k ≤ l.length ∧ i = .int .i64 k ∧ wr.ownsRow w.heap.size 3 1 v k (lcells ((l.take k).map fun r => Em.held r.n)) ∧ Below w.heap.size w wr) (fun _ i _ => l.length - (intOf i).toNat)
  case atStart => exact ⟨0, Nat.zero_le _, rfl, World.ownsRow_nil _ _ _ _, Below.refl _ _⟩
  case round =>
    obtain ⟨k, hk, rfl, hown, hb⟩ := hrel
    have hz := hb.size
    by_cases hkl : k < l.length
    · obtain ⟨b, o, rfl, hbb, hc⟩ := run_cell hR.out (by omega)
      obtain ⟨c0, c1, c2, c3⟩ := hc k hkl
      have d0 := (hb.cell (p := ⟨b, o + k * 4, none⟩) hbb).trans c0
      have d1 := (hb.cell (p := ⟨b, o + k * 4 + 1, none⟩) hbb).trans c1
      have d2 := (hb.cell (p := ⟨b, o + k * 4 + 2, none⟩) hbb).trans c2
      have d3 := (hb.cell (p := ⟨b, o + k * 4 + 3, none⟩) hbb).trans c3
      clear hc c0 c1 c2 c3
      have ht : Hid (((l.take (k + 1)).map fun r => Em.held r.n) = ((l.take k).map fun r => Em.held r.n) ++ [Em.held l[k].n]) := Lib.hid (by rw [List.take_succ_eq_append_getElem hkl, List.map_append]; rfl)
      obtain ⟨r, hr⟩ : ∃ r, r = l[k] := ⟨_, rfl⟩
      rw [← hr] at d0 d1 d2 d3 ht
      clear hr
      obtain ⟨H, hH⟩ : ∃ H, H = (l.take k).map fun r => Em.held r.n := ⟨_, rfl⟩
      rw [← hH] at hown ht
      clear hH
      have hbw : b < wr.heap.size := Nat.lt_of_lt_of_le hbb hb.size
      go_wp2_with fail
      refine (rheld_any _ _).mono ?_
      rintro e w2 ⟨rfl, rfl⟩
      go_wp2_with (at_builtin; refine wpList_app_new rfl (.tmp 17) (.tmp 21) rfl intEI rfl (hown.alloc _) rfl (by simp) rfl (by simp; rfl) (by omega) (by omega) (by simp; omega) ?_; intro v2 w2 hown2 hg2 hb3)
      go_roundw
      case rel => exact ⟨k + 1, hkl, by go_num, by rw [ht.out]; simpa [lcells] using hown2, hb.trans (((Below.refl _ _).alloc hz _).trans hb3)⟩
      case measure => simp [intOf]; omega
    · have hke : k = l.length := by omega
      subst hke
      rw [List.take_of_length_le (Nat.le_refl _)] at hown
      obtain ⟨A1, c1, rfl, hc1⟩ := own_shape hown
      obtain ⟨w1, rfl⟩ : ∃ w1 : World, w1 = wr := ⟨_, rfl⟩
      obtain ⟨L0, hL0⟩ : ∃ L, L = l.map fun r => Em.held r.n := ⟨_, rfl⟩
      rw [← hL0] at hown
      have hL0l : L0.length = l.length := by rw [hL0, List.length_map]
      have hB0 : ∀ i, Em.lf L0 i ≤ 100 := fun i => by
        rcases Nat.lt_or_ge i L0.length with h | h
        · rw [Em.lf_at h]
          simp only [hL0, List.getElem_map]
          exact Em.held_le _
        · simp [Em.lf, List.getD, List.getElem?_eq_none h]
      obtain ⟨fin, hfin⟩ : ∃ fin, fin = Em.outer l l.length 0 (L0, []) := ⟨_, rfl⟩
      have hres : Hid (fin.2 = Em.pairs l) := Lib.hid (by rw [hfin, hL0]; rfl)
      replace hfin := Lib.hid hfin
      replace hL0 := Lib.hid hL0
      go_wp2_with fail
      go_loopw [6, 26] (fun ov i wr => ∃ (k : Nat) (L : List Nat) (out : List (Nat × Nat × Nat)), k ≤ l.length ∧ i = .int .i64 k ∧ L.length = l.length ∧ Hid (wr.ownsRow w.heap.size 3 1 (.slice A1 l.length c1) l.length (lcells L)) ∧
          Hid (wr.ownsRow w.heap.size 108 3 ov out.length (pcells out)) ∧ Hid (Apart (.slice A1 l.length c1) ov) ∧ Below w.heap.size w wr ∧ Hid (Em.outer l (l.length - k) k (L, out) = fin) ∧ Hid (Em.Bd k (L, out)))
        (fun _ i _ => l.length - (intOf i).toNat)
      case atStart => exact ⟨0, L0, [], Nat.zero_le _, rfl, hL0l, Lib.hid hown, Lib.hid (World.ownsRow_nil _ _ _ _), Lib.hid (Apart.nil _).symm, hb, Lib.hid hfin.out.symm, Lib.hid ⟨hB0, by simp⟩⟩
      case round =>
        obtain ⟨k, L, out, hk, rfl, hLl, hoL, hoO, hap, hb, hfi, hbd⟩ := hrel
        clear hown hB0 hL0l hfin hL0
        by_cases hkl : k < l.length
        · have hbi := Lib.hid (Em.bd_in hbd.out)
          have hfi2 : Hid (Em.outer l (l.length - (k + 1)) (k + 1) (Em.inner l k (L, out)) = fin) := Lib.hid (by
            have h1 := hfi.out
            rw [show l.length - k = (l.length - (k + 1)) + 1 by omega] at h1
            exact h1)
          clear hfi hbd
          obtain ⟨b, o, rfl, hbb, hc⟩ := run_cell hR.out (by omega)
          have hRA : Hid (RunsAt l b o w) := Lib.hid ⟨hbb, hc⟩
          obtain ⟨g, rfl⟩ : ∃ g, A1 = some ⟨g, 0, none⟩ := by
            rcases hoL.out.2 with ⟨hv, h0⟩ | ⟨g, cap, cur, hv, _⟩
            · omega
            · injection hv with h1 _ _; exact ⟨g, h1⟩
          have hEA : Hid (EmAt w l.length g c1 L u6 out wr) := Lib.hid ⟨hoL.out, hoO.out, hap.out, hb, hLl⟩
          clear hc hoL hoO hap hbb
          go_wp2_with fail
          refine em_inner l b o c g c1 k w wr L u6 out hkl hl hRA.out hEA.out hbi.out _ _ _ _ _ _ _ _ _ _ _ _ _ _ _ _ _ _ _ _ _ _ _ _ _ _ _ _ _ _ _ _ _ _ _ _ _ _ _ _ _ _ _ _ _ _ _ _ _ _ _ _ _ _ _ _ _ _ _ _ _ _ _ _ _ _ _ _ _ _ _ _ _ _ _ _ _ _ _ _ _ _ _ _ _ _ _ _ _ _ _ _ _ _ _ _ _ _ _ _ _ _ _ _ _ _ _ _ _ _ _ _ _ _ _ _ _ _ _ _ _ _ _ _ _ _ _ _ _ _ _ _ _ _ (fun _ _ d _ _ h => by cases d <;> exact h) ?_
          intro v8 v9 v10 v29 v30 v31 v32 v33 v34 v35 v36 v37 v38 v39 v40 v41 v42 v43 v44 v45 v46 v47 v48 v49 v50 v51 v52 v53 v54 v55 v56 v57 v58 v59 v60 v61 v62 v63 v64 v65 v66 v67 v68 v69 v70 v71 v72 v73 v74 v75 v76 v77 v78 v79 v80 v81 v82 v83 v84 v85 v86 v87 v88 v89 v90 v91 v92 v93 v94 v95 v96 v97 v98 v99 v100 v101 v102 v103 v104 v105 v106 v107 v108 v109 v110 v111 v112 v113 v114 v115 v116 v117 v118 v119 v120 v121 v122 v123 v124 v125 v126 v127 v128 v129 v130 v131 v132 v133 v134 ov2 L2 out2 wq hE2 hin2 hbi2
          replace hE2 := Lib.hid hE2
          replace hin2 := Lib.hid hin2
          replace hbi2 := Lib.hid hbi2
          clear hEA hbi
          go_wp2_with fail
          go_roundw
          case rel => exact ⟨k + 1, L2, out2, hkl, by go_num, hE2.out.len, Lib.hid hE2.out.left, Lib.hid hE2.out.pairs, Lib.hid hE2.out.apart, hE2.out.below, Lib.hid (by rw [← hfi2.out, hin2.out]), Lib.hid (Em.bd_out hbi2.out)⟩
          case measure => simp [intOf] <;> omega
        · have hke : k = l.length := by omega
          subst hke
          have ho : out = Em.pairs l := by
            have h1 := hfi.out
            rw [Nat.sub_self] at h1
            rw [← hres.out, ← h1]; rfl
          subst ho
          go_wp2
          go_ret
          exact ⟨⟨_, rfl, hoO.out⟩, hb⟩

end Go.Proofs.YtkfhkfagmokjpaaGreatDoor

namespace Go.Proofs.YtkfhkfagmokjpaaGreatDoor
open Go.RowKit

theorem ICs_cons {w : World} {Q : Nat → Prop} {t : Il.In} {c : List Value} {ts : List Il.In} {cr : List (List Value)} (h : IC w Q t c) (hr : ICs w Q ts cr) : ICs w Q (t :: ts) (c :: cr) := by
  unfold ICs; exact ⟨c, cr, rfl, h, hr⟩
/-- one without kids -/
def leafC (kd : Nat) (t d : List UInt8) : List Value := [.int .i64 (kd : Int), .string (bs t), .string (bs d), .slice none 0 0]
/-- one whose kids lie in a block -/
def nodeC (kd : Nat) (t d : List UInt8) (g n : Nat) : List Value := [.int .i64 (kd : Int), .string (bs t), .string (bs d), .slice (some ⟨g, 0, none⟩) n n]
theorem IC_leaf {w : World} {Q : Nat → Prop} (kd : Nat) (t d : List UInt8) : IC w Q (.mk kd t d []) (leafC kd t d) := by
  unfold IC
  exact ⟨none, 0, [], rfl, Nat.le_refl _, ⟨rfl, fun h => absurd h (by simp)⟩, ICs_nil⟩
theorem IC_node {w : World} {Q : Nat → Prop} (kd : Nat) (t d : List UInt8) {ks : List Il.In} {g n : Nat} {css : List (List Value)} (hn : ks.length = n) (hR : RowI w Q 4 (some ⟨g, 0, none⟩) n css.flatten) (hI : ICs w Q ks css) : IC w Q (.mk kd t d ks) (nodeC kd t d g n) := by
  subst hn
  unfold IC
  exact ⟨some ⟨g, 0, none⟩, ks.length, css, rfl, Nat.le_refl _, hR, hI⟩
theorem RowI_blk {w : World} {Q : Nat → Prop} {g n : Nat} {C : Array Value} {T : TypeId} (h : w.heap[g]? = some (.cells C T)) (hq : Q g) {xs : List Value} (hx : C.toList = xs) (hn : xs.length = n * 4) : RowI w Q 4 (some ⟨g, 0, none⟩) n xs := by
  refine ⟨hn, fun _ => ⟨g, 0, rfl, hq, fun j u hj => ?_⟩⟩
  rw [Nat.zero_add, Lib.cell_of_heap h]
  subst hx
  simpa using hj
theorem lit_at {w : World} {o : Obj} {k : Nat} (h : w.heap.size = k) : (w.alloc o).heap[k]? = some o := by rw [← h]; exact heap_alloc_new w o
theorem lit_old {w : World} {o : Obj} {k : Nat} {x : Obj} (h : w.heap[k]? = some x) : (w.alloc o).heap[k]? = some x := by
  have hk : k < w.heap.size := (Array.getElem?_eq_some_iff.1 h).1
  rw [Lib.alloc_old w o k hk]; exact h
end Go.Proofs.YtkfhkfagmokjpaaGreatDoor

namespace Go.Proofs.YtkfhkfagmokjpaaGreatDoor
open Go.RowKit

def kindV : Option (Em.R × Nat) → Value
  | none => .tuple #[.agg #[.int .u8 0, .int .i64 0, .bool false, .bool false], .int .i64 0, .bool false]
  | some x => .tuple #[aval x.1, .int .i64 (x.2 : Int), .bool true]
theorem seven (xx yy PA PB : Bool) : (xx = false ∧ yy = false) ∨ (xx = false ∧ yy = true) ∨ (xx = true ∧ yy = false) ∨ (xx = true ∧ yy = true ∧ PA = false ∧ PB = false) ∨ (xx = true ∧ yy = true ∧ PA = false ∧ PB = true) ∨ (xx = true ∧ yy = true ∧ PA = true ∧ PB = false) ∨ (xx = true ∧ yy = true ∧ PA = true ∧ PB = true) := by
  cases xx <;> cases yy <;> cases PA <;> cases PB <;> simp
end Go.Proofs.YtkfhkfagmokjpaaGreatDoor

namespace Go.Proofs.YtkfhkfagmokjpaaGreatDoor
open Go.RowKit

set_option maxHeartbeats 2000000 in
set_option maxRecDepth 100000 in
theorem kind_last (g0 g1 k n : Nat) (c : UInt8) (x y : Bool) (w4 : World) (hk : (k : Int) + n ≤ 1000000000000)
    (z0 : w4.cell? ⟨g1, 0, none⟩ = some (.int .u8 (c.toNat : Int))) (z1 : w4.cell? ⟨g1, 1, none⟩ = some (.int .i64 (n : Int))) (z2 : w4.cell? ⟨g1, 2, none⟩ = some (.bool x)) (z3 : w4.cell? ⟨g1, 3, none⟩ = some (.bool y))
    (k0 : w4.cell? ⟨g0, 0, none⟩ = some (.int .u8 0)) (k1 : w4.cell? ⟨g0, 1, none⟩ = some (.int .i64 0)) (k2 : w4.cell? ⟨g0, 2, none⟩ = some (.bool false)) (k3 : w4.cell? ⟨g0, 3, none⟩ = some (.bool false)) (k4 : ∀ j, w4.frozen? ⟨g0, j, none⟩ = false)
    (s0 s2 s3 s5 s6 s8 s9 s10 s11 s12 s13 s15 s16 s17 s18 s19 s20 s21 s22 s23 s24 s25 s26 s27 s28 s29 s30 s31 s32 s33 s34 s35 s36 s37 s38 s39 s40 s41 s42 s43 s44 s45 s46 s47 s48 s49 s50 s51 s52 s53 s54 s55 s56 s57 s58 s59 s60 s61 s62 s63 s64 s65 s66 s67 s68 s69 s70 s71 s72 s73 s74 s75 s76 s77 s78 s79 s80 s81 s82 s83 s84 s85 s86 s87 s88 s89 s90 s91 s92 s93 s94 s95 s96 s97 s98 s99 s100 s101 s102 s103 s104 s105 s106 s107 s108 s109 s110 s111 s112 s113 s114 s115 s116 s117 s118 s119 s120 s121 s122 s123 s124 s125 s126 s127 s128 s129 s130 s131 s132 s133 s134 s135 s136 s137 s138 s139 s140 s141 s142 s143 s144 : Value) (Q : Exit → Act → World → Prop)
    (hq : ∀ (v141 v142 v143 v144 : Value) (wq : World), wq = (((w4.setCell ⟨g0, 0, none⟩ (.int .u8 (c.toNat : Int))).setCell ⟨g0, 1, none⟩ (.int .i64 (n : Int))).setCell ⟨g0, 2, none⟩ (.bool x)).setCell ⟨g0, 3, none⟩ (.bool y) → Q .normal ⟨(s0 :: .int .i64 (k : Int) :: s2 :: s3 :: .pointer (some ⟨g0, 0, none⟩) :: .int .i64 ((k : Int) + n) :: .bool true :: .int .i64 (n : Int) :: s8 :: s9 :: s10 :: s11 :: s12 :: s13 :: .pointer (some ⟨g1, 0, none⟩) :: s15 :: s16 :: s17 :: s18 :: s19 :: s20 :: s21 :: s22 :: s23 :: s24 :: s25 :: s26 :: s27 :: s28 :: s29 :: s30 :: s31 :: s32 :: s33 :: s34 :: s35 :: s36 :: s37 :: s38 :: s39 :: s40 :: s41 :: s42 :: s43 :: s44 :: s45 :: s46 :: s47 :: s48 :: s49 :: s50 :: s51 :: s52 :: s53 :: s54 :: s55 :: s56 :: s57 :: s58 :: s59 :: s60 :: s61 :: s62 :: s63 :: s64 :: s65 :: s66 :: s67 :: s68 :: s69 :: s70 :: s71 :: s72 :: s73 :: s74 :: s75 :: s76 :: s77 :: s78 :: s79 :: s80 :: s81 :: s82 :: s83 :: s84 :: s85 :: s86 :: s87 :: s88 :: s89 :: s90 :: s91 :: s92 :: s93 :: s94 :: s95 :: s96 :: s97 :: s98 :: s99 :: s100 :: s101 :: s102 :: s103 :: s104 :: s105 :: s106 :: s107 :: s108 :: s109 :: s110 :: s111 :: s112 :: s113 :: s114 :: s115 :: s116 :: s117 :: s118 :: s119 :: s120 :: s121 :: s122 :: s123 :: s124 :: s125 :: s126 :: s127 :: s128 :: s129 :: s130 :: s131 :: s132 :: s133 :: s134 :: s135 :: s136 :: s137 :: s138 :: s139 :: s140 :: v141 :: v142 :: v143 :: v144 :: []).toArray, []⟩ wq) :
    Code.wp Tryz.prog (regionAt Tryz.f31 17) Q ⟨(s0 :: .int .i64 (k : Int) :: s2 :: s3 :: .pointer (some ⟨g0, 0, none⟩) :: s5 :: s6 :: .int .i64 (n : Int) :: s8 :: s9 :: s10 :: s11 :: s12 :: s13 :: .pointer (some ⟨g1, 0, none⟩) :: s15 :: s16 :: s17 :: s18 :: s19 :: s20 :: s21 :: s22 :: s23 :: s24 :: s25 :: s26 :: s27 :: s28 :: s29 :: s30 :: s31 :: s32 :: s33 :: s34 :: s35 :: s36 :: s37 :: s38 :: s39 :: s40 :: s41 :: s42 :: s43 :: s44 :: s45 :: s46 :: s47 :: s48 :: s49 :: s50 :: s51 :: s52 :: s53 :: s54 :: s55 :: s56 :: s57 :: s58 :: s59 :: s60 :: s61 :: s62 :: s63 :: s64 :: s65 :: s66 :: s67 :: s68 :: s69 :: s70 :: s71 :: s72 :: s73 :: s74 :: s75 :: s76 :: s77 :: s78 :: s79 :: s80 :: s81 :: s82 :: s83 :: s84 :: s85 :: s86 :: s87 :: s88 :: s89 :: s90 :: s91 :: s92 :: s93 :: s94 :: s95 :: s96 :: s97 :: s98 :: s99 :: s100 :: s101 :: s102 :: s103 :: s104 :: s105 :: s106 :: s107 :: s108 :: s109 :: s110 :: s111 :: s112 :: s113 :: s114 :: s115 :: s116 :: s117 :: s118 :: s119 :: s120 :: s121 :: s122 :: s123 :: s124 :: s125 :: s126 :: s127 :: s128 :: s129 :: s130 :: s131 :: s132 :: s133 :: s134 :: s135 :: s136 :: s137 :: s138 :: s139 :: s140 :: s141 :: s142 :: s143 :: s144 :: []).toArray, []⟩ w4 := by
  replace hq := Lib.hid hq
  have hwr : IntKind.i64.wrap ((k : Int) + n) = (k : Int) + n := by rw [IntKind.wrap_i64]; omega
  conv => arg 2; whnf
  go_wp2_with fail
  exact hq.out _ _ _ _ _ rfl
end Go.Proofs.YtkfhkfagmokjpaaGreatDoor

namespace Go.Proofs.YtkfhkfagmokjpaaGreatDoor
open Go.RowKit

set_option maxHeartbeats 2000000 in
set_option maxRecDepth 100000 in
theorem kind_left (a b : Int) (BA BB PA PB : Bool) (w4 : World) (hBA : blankB a = BA) (hBB : blankB b = BB) (hPA : punctB a = PA) (hPB : punctB b = PB)
    (s0 s1 s2 s3 s4 s5 s6 s7 s10 s11 s12 s13 s14 s15 s16 s17 s18 s19 s20 s21 s22 s23 s24 s25 s26 s27 s28 s29 s30 s31 s32 s33 s34 s35 s36 s37 s38 s39 s40 s41 s42 s43 s44 s45 s46 s47 s48 s49 s50 s51 s52 s53 s54 s55 s56 s57 s58 s59 s60 s61 s62 s63 s64 s65 s66 s67 s68 s69 s70 s71 s72 s73 s74 s75 s76 s77 s78 s79 s80 s81 s82 s83 s84 s85 s86 s87 s88 s89 s90 s91 s92 s93 s94 s95 s96 s97 s98 s99 s100 s101 s102 s103 s104 s105 s106 s107 s108 s109 s110 s111 s112 s113 s114 s115 s116 s117 s118 s119 s120 s121 s122 s123 s124 s125 s126 s127 s128 s129 s130 s131 s132 s133 s134 s135 s136 s137 s138 s139 s140 s141 s142 s143 s144 : Value) (Q : Exit → Act → World → Prop)
    (hq : ∀ (v78 v79 v80 v81 v82 v83 v84 v85 v86 v87 v88 v89 v90 v91 v92 v93 : Value) (wq : World), wq = w4 → Q .normal ⟨(s0 :: s1 :: s2 :: s3 :: s4 :: s5 :: s6 :: s7 :: .int .i32 b :: .int .i32 a :: s10 :: s11 :: .bool (!BA && (!PA || BB || PB)) :: s13 :: s14 :: s15 :: s16 :: s17 :: s18 :: s19 :: s20 :: s21 :: s22 :: s23 :: s24 :: s25 :: s26 :: s27 :: s28 :: s29 :: s30 :: s31 :: s32 :: s33 :: s34 :: s35 :: s36 :: s37 :: s38 :: s39 :: s40 :: s41 :: s42 :: s43 :: s44 :: s45 :: s46 :: s47 :: s48 :: s49 :: s50 :: s51 :: s52 :: s53 :: s54 :: s55 :: s56 :: s57 :: s58 :: s59 :: s60 :: s61 :: s62 :: s63 :: s64 :: s65 :: s66 :: s67 :: s68 :: s69 :: s70 :: s71 :: s72 :: s73 :: s74 :: s75 :: s76 :: s77 :: v78 :: v79 :: v80 :: v81 :: v82 :: v83 :: v84 :: v85 :: v86 :: v87 :: v88 :: v89 :: v90 :: v91 :: v92 :: v93 :: s94 :: s95 :: s96 :: s97 :: s98 :: s99 :: s100 :: s101 :: s102 :: s103 :: s104 :: s105 :: s106 :: s107 :: s108 :: s109 :: s110 :: s111 :: s112 :: s113 :: s114 :: s115 :: s116 :: s117 :: s118 :: s119 :: s120 :: s121 :: s122 :: s123 :: s124 :: s125 :: s126 :: s127 :: s128 :: s129 :: s130 :: s131 :: s132 :: s133 :: s134 :: s135 :: s136 :: s137 :: s138 :: s139 :: s140 :: s141 :: s142 :: s143 :: s144 :: []).toArray, []⟩ wq) :
    Code.wp Tryz.prog (regionAt Tryz.f31 11) Q ⟨(s0 :: s1 :: s2 :: s3 :: s4 :: s5 :: s6 :: s7 :: .int .i32 b :: .int .i32 a :: s10 :: s11 :: s12 :: s13 :: s14 :: s15 :: s16 :: s17 :: s18 :: s19 :: s20 :: s21 :: s22 :: s23 :: s24 :: s25 :: s26 :: s27 :: s28 :: s29 :: s30 :: s31 :: s32 :: s33 :: s34 :: s35 :: s36 :: s37 :: s38 :: s39 :: s40 :: s41 :: s42 :: s43 :: s44 :: s45 :: s46 :: s47 :: s48 :: s49 :: s50 :: s51 :: s52 :: s53 :: s54 :: s55 :: s56 :: s57 :: s58 :: s59 :: s60 :: s61 :: s62 :: s63 :: s64 :: s65 :: s66 :: s67 :: s68 :: s69 :: s70 :: s71 :: s72 :: s73 :: s74 :: s75 :: s76 :: s77 :: s78 :: s79 :: s80 :: s81 :: s82 :: s83 :: s84 :: s85 :: s86 :: s87 :: s88 :: s89 :: s90 :: s91 :: s92 :: s93 :: s94 :: s95 :: s96 :: s97 :: s98 :: s99 :: s100 :: s101 :: s102 :: s103 :: s104 :: s105 :: s106 :: s107 :: s108 :: s109 :: s110 :: s111 :: s112 :: s113 :: s114 :: s115 :: s116 :: s117 :: s118 :: s119 :: s120 :: s121 :: s122 :: s123 :: s124 :: s125 :: s126 :: s127 :: s128 :: s129 :: s130 :: s131 :: s132 :: s133 :: s134 :: s135 :: s136 :: s137 :: s138 :: s139 :: s140 :: s141 :: s142 :: s143 :: s144 :: []).toArray, []⟩ w4 := by
  replace hq := Lib.hid hq
  cases BA with
  | true =>
    conv => arg 2; whnf
    go_wp2_with (first | (go_at_call 52; refine (rblank_any _ _).mono ?_; rintro e w9 ⟨rfl, rfl⟩; first | rw [hBA] | rw [hBB]) | (go_at_call 54; refine (rpunct_any _ _).mono ?_; rintro e w9 ⟨rfl, rfl⟩; first | rw [hPA] | rw [hPB]))
    exact hq.out _ _ _ _ _ _ _ _ _ _ _ _ _ _ _ _ _ rfl
  | false =>
    cases PA with
    | false =>
      conv => arg 2; whnf
      go_wp2_with (first | (go_at_call 52; refine (rblank_any _ _).mono ?_; rintro e w9 ⟨rfl, rfl⟩; first | rw [hBA] | rw [hBB]) | (go_at_call 54; refine (rpunct_any _ _).mono ?_; rintro e w9 ⟨rfl, rfl⟩; first | rw [hPA] | rw [hPB]))
      exact hq.out _ _ _ _ _ _ _ _ _ _ _ _ _ _ _ _ _ rfl
    | true =>
      cases BB with
      | true =>
        conv => arg 2; whnf
        go_wp2_with (first | (go_at_call 52; refine (rblank_any _ _).mono ?_; rintro e w9 ⟨rfl, rfl⟩; first | rw [hBA] | rw [hBB]) | (go_at_call 54; refine (rpunct_any _ _).mono ?_; rintro e w9 ⟨rfl, rfl⟩; first | rw [hPA] | rw [hPB]))
        exact hq.out _ _ _ _ _ _ _ _ _ _ _ _ _ _ _ _ _ rfl
      | false =>
        cases PB with
        | true =>
          conv => arg 2; whnf
          go_wp2_with (first | (go_at_call 52; refine (rblank_any _ _).mono ?_; rintro e w9 ⟨rfl, rfl⟩; first | rw [hBA] | rw [hBB]) | (go_at_call 54; refine (rpunct_any _ _).mono ?_; rintro e w9 ⟨rfl, rfl⟩; first | rw [hPA] | rw [hPB]))
          exact hq.out _ _ _ _ _ _ _ _ _ _ _ _ _ _ _ _ _ rfl
        | false =>
          conv => arg 2; whnf
          go_wp2_with (first | (go_at_call 52; refine (rblank_any _ _).mono ?_; rintro e w9 ⟨rfl, rfl⟩; first | rw [hBA] | rw [hBB]) | (go_at_call 54; refine (rpunct_any _ _).mono ?_; rintro e w9 ⟨rfl, rfl⟩; first | rw [hPA] | rw [hPB]))
          exact hq.out _ _ _ _ _ _ _ _ _ _ _ _ _ _ _ _ _ rfl

set_option maxHeartbeats 2000000 in
set_option maxRecDepth 100000 in
theorem kind_right (a b : Int) (BA BB PA PB : Bool) (w4 : World) (hBA : blankB a = BA) (hBB : blankB b = BB) (hPA : punctB a = PA) (hPB : punctB b = PB)
    (s0 s1 s2 s3 s4 s5 s6 s7 s10 s11 s12 s13 s14 s15 s16 s17 s18 s19 s20 s21 s22 s23 s24 s25 s26 s27 s28 s29 s30 s31 s32 s33 s34 s35 s36 s37 s38 s39 s40 s41 s42 s43 s44 s45 s46 s47 s48 s49 s50 s51 s52 s53 s54 s55 s56 s57 s58 s59 s60 s61 s62 s63 s64 s65 s66 s67 s68 s69 s70 s71 s72 s73 s74 s75 s76 s77 s78 s79 s80 s81 s82 s83 s84 s85 s86 s87 s88 s89 s90 s91 s92 s93 s94 s95 s96 s97 s98 s99 s100 s101 s102 s103 s104 s105 s106 s107 s108 s109 s110 s111 s112 s113 s114 s115 s116 s117 s118 s119 s120 s121 s122 s123 s124 s125 s126 s127 s128 s129 s130 s131 s132 s133 s134 s135 s136 s137 s138 s139 s140 s141 s142 s143 s144 : Value) (Q : Exit → Act → World → Prop)
    (hq : ∀ (v94 v95 v96 v97 v98 v99 v100 v101 v102 v103 v104 v105 v106 v107 v108 v109 : Value) (wq : World), wq = w4 → Q .normal ⟨(s0 :: s1 :: s2 :: s3 :: s4 :: s5 :: s6 :: s7 :: .int .i32 b :: .int .i32 a :: s10 :: s11 :: s12 :: .bool (!BB && (!PB || BA || PA)) :: s14 :: s15 :: s16 :: s17 :: s18 :: s19 :: s20 :: s21 :: s22 :: s23 :: s24 :: s25 :: s26 :: s27 :: s28 :: s29 :: s30 :: s31 :: s32 :: s33 :: s34 :: s35 :: s36 :: s37 :: s38 :: s39 :: s40 :: s41 :: s42 :: s43 :: s44 :: s45 :: s46 :: s47 :: s48 :: s49 :: s50 :: s51 :: s52 :: s53 :: s54 :: s55 :: s56 :: s57 :: s58 :: s59 :: s60 :: s61 :: s62 :: s63 :: s64 :: s65 :: s66 :: s67 :: s68 :: s69 :: s70 :: s71 :: s72 :: s73 :: s74 :: s75 :: s76 :: s77 :: s78 :: s79 :: s80 :: s81 :: s82 :: s83 :: s84 :: s85 :: s86 :: s87 :: s88 :: s89 :: s90 :: s91 :: s92 :: s93 :: v94 :: v95 :: v96 :: v97 :: v98 :: v99 :: v100 :: v101 :: v102 :: v103 :: v104 :: v105 :: v106 :: v107 :: v108 :: v109 :: s110 :: s111 :: s112 :: s113 :: s114 :: s115 :: s116 :: s117 :: s118 :: s119 :: s120 :: s121 :: s122 :: s123 :: s124 :: s125 :: s126 :: s127 :: s128 :: s129 :: s130 :: s131 :: s132 :: s133 :: s134 :: s135 :: s136 :: s137 :: s138 :: s139 :: s140 :: s141 :: s142 :: s143 :: s144 :: []).toArray, []⟩ wq) :
    Code.wp Tryz.prog (regionAt Tryz.f31 12) Q ⟨(s0 :: s1 :: s2 :: s3 :: s4 :: s5 :: s6 :: s7 :: .int .i32 b :: .int .i32 a :: s10 :: s11 :: s12 :: s13 :: s14 :: s15 :: s16 :: s17 :: s18 :: s19 :: s20 :: s21 :: s22 :: s23 :: s24 :: s25 :: s26 :: s27 :: s28 :: s29 :: s30 :: s31 :: s32 :: s33 :: s34 :: s35 :: s36 :: s37 :: s38 :: s39 :: s40 :: s41 :: s42 :: s43 :: s44 :: s45 :: s46 :: s47 :: s48 :: s49 :: s50 :: s51 :: s52 :: s53 :: s54 :: s55 :: s56 :: s57 :: s58 :: s59 :: s60 :: s61 :: s62 :: s63 :: s64 :: s65 :: s66 :: s67 :: s68 :: s69 :: s70 :: s71 :: s72 :: s73 :: s74 :: s75 :: s76 :: s77 :: s78 :: s79 :: s80 :: s81 :: s82 :: s83 :: s84 :: s85 :: s86 :: s87 :: s88 :: s89 :: s90 :: s91 :: s92 :: s93 :: s94 :: s95 :: s96 :: s97 :: s98 :: s99 :: s100 :: s101 :: s102 :: s103 :: s104 :: s105 :: s106 :: s107 :: s108 :: s109 :: s110 :: s111 :: s112 :: s113 :: s114 :: s115 :: s116 :: s117 :: s118 :: s119 :: s120 :: s121 :: s122 :: s123 :: s124 :: s125 :: s126 :: s127 :: s128 :: s129 :: s130 :: s131 :: s132 :: s133 :: s134 :: s135 :: s136 :: s137 :: s138 :: s139 :: s140 :: s141 :: s142 :: s143 :: s144 :: []).toArray, []⟩ w4 := by
  replace hq := Lib.hid hq
  cases BB with
  | true =>
    conv => arg 2; whnf
    go_wp2_with (first | (go_at_call 52; refine (rblank_any _ _).mono ?_; rintro e w9 ⟨rfl, rfl⟩; first | rw [hBA] | rw [hBB]) | (go_at_call 54; refine (rpunct_any _ _).mono ?_; rintro e w9 ⟨rfl, rfl⟩; first | rw [hPA] | rw [hPB]))
    exact hq.out _ _ _ _ _ _ _ _ _ _ _ _ _ _ _ _ _ rfl
  | false =>
    cases PB with
    | false =>
      conv => arg 2; whnf
      go_wp2_with (first | (go_at_call 52; refine (rblank_any _ _).mono ?_; rintro e w9 ⟨rfl, rfl⟩; first | rw [hBA] | rw [hBB]) | (go_at_call 54; refine (rpunct_any _ _).mono ?_; rintro e w9 ⟨rfl, rfl⟩; first | rw [hPA] | rw [hPB]))
      exact hq.out _ _ _ _ _ _ _ _ _ _ _ _ _ _ _ _ _ rfl
    | true =>
      cases BA with
      | true =>
        conv => arg 2; whnf
        go_wp2_with (first | (go_at_call 52; refine (rblank_any _ _).mono ?_; rintro e w9 ⟨rfl, rfl⟩; first | rw [hBA] | rw [hBB]) | (go_at_call 54; refine (rpunct_any _ _).mono ?_; rintro e w9 ⟨rfl, rfl⟩; first | rw [hPA] | rw [hPB]))
        exact hq.out _ _ _ _ _ _ _ _ _ _ _ _ _ _ _ _ _ rfl
      | false =>
        cases PA with
        | true =>
          conv => arg 2; whnf
          go_wp2_with (first | (go_at_call 52; refine (rblank_any _ _).mono ?_; rintro e w9 ⟨rfl, rfl⟩; first | rw [hBA] | rw [hBB]) | (go_at_call 54; refine (rpunct_any _ _).mono ?_; rintro e w9 ⟨rfl, rfl⟩; first | rw [hPA] | rw [hPB]))
          exact hq.out _ _ _ _ _ _ _ _ _ _ _ _ _ _ _ _ _ rfl
        | false =>
          conv => arg 2; whnf
          go_wp2_with (first | (go_at_call 52; refine (rblank_any _ _).mono ?_; rintro e w9 ⟨rfl, rfl⟩; first | rw [hBA] | rw [hBB]) | (go_at_call 54; refine (rpunct_any _ _).mono ?_; rintro e w9 ⟨rfl, rfl⟩; first | rw [hPA] | rw [hPB]))
          exact hq.out _ _ _ _ _ _ _ _ _ _ _ _ _ _ _ _ _ rfl

set_option maxHeartbeats 2000000 in
set_option maxRecDepth 100000 in
theorem kind_made (l : List UInt8) (k n : Nat) (x y : Bool) (c : UInt8) (w4 : World) (hix : ∀ w : World, (Instr.index 9 (.string (bs l)) (.int .i64 (k : Int))).run Tryz.prog w = .ok (.int .u8 (c.toNat : Int)) w)
    (s2 s3 s4 s5 s6 s8 s9 s10 s11 s14 s15 s16 s17 s18 s19 s20 s21 s22 s23 s24 s25 s26 s27 s28 s29 s30 s31 s32 s33 s34 s35 s36 s37 s38 s39 s40 s41 s42 s43 s44 s45 s46 s47 s48 s49 s50 s51 s52 s53 s54 s55 s56 s57 s58 s59 s60 s61 s62 s63 s64 s65 s66 s67 s68 s69 s70 s71 s72 s73 s74 s75 s76 s77 s78 s79 s80 s81 s82 s83 s84 s85 s86 s87 s88 s89 s90 s91 s92 s93 s94 s95 s96 s97 s98 s99 s100 s101 s102 s103 s104 s105 s106 s107 s108 s109 s110 s111 s112 s113 s114 s115 s116 s117 s118 s119 s120 s121 s122 s123 s124 s125 s126 s127 s128 s129 s130 s131 s132 s133 s134 s135 s136 s137 s138 s139 s140 s141 s142 s143 s144 : Value) (Q : Exit → Act → World → Prop)
    (hq : ∀ (v110 v111 v112 v113 v114 v115 v116 : Value) (wq : World), wq = w4.alloc (.cells #[.int .u8 (c.toNat : Int), .int .i64 (n : Int), .bool x, .bool y] 74) → Q .normal ⟨(.string (bs l) :: .int .i64 (k : Int) :: s2 :: s3 :: s4 :: s5 :: s6 :: .int .i64 (n : Int) :: s8 :: s9 :: s10 :: s11 :: .bool x :: .bool y :: .pointer (some ⟨w4.heap.size, 0, none⟩) :: s15 :: s16 :: s17 :: s18 :: s19 :: s20 :: s21 :: s22 :: s23 :: s24 :: s25 :: s26 :: s27 :: s28 :: s29 :: s30 :: s31 :: s32 :: s33 :: s34 :: s35 :: s36 :: s37 :: s38 :: s39 :: s40 :: s41 :: s42 :: s43 :: s44 :: s45 :: s46 :: s47 :: s48 :: s49 :: s50 :: s51 :: s52 :: s53 :: s54 :: s55 :: s56 :: s57 :: s58 :: s59 :: s60 :: s61 :: s62 :: s63 :: s64 :: s65 :: s66 :: s67 :: s68 :: s69 :: s70 :: s71 :: s72 :: s73 :: s74 :: s75 :: s76 :: s77 :: s78 :: s79 :: s80 :: s81 :: s82 :: s83 :: s84 :: s85 :: s86 :: s87 :: s88 :: s89 :: s90 :: s91 :: s92 :: s93 :: s94 :: s95 :: s96 :: s97 :: s98 :: s99 :: s100 :: s101 :: s102 :: s103 :: s104 :: s105 :: s106 :: s107 :: s108 :: s109 :: v110 :: v111 :: v112 :: v113 :: v114 :: v115 :: v116 :: s117 :: s118 :: s119 :: s120 :: s121 :: s122 :: s123 :: s124 :: s125 :: s126 :: s127 :: s128 :: s129 :: s130 :: s131 :: s132 :: s133 :: s134 :: s135 :: s136 :: s137 :: s138 :: s139 :: s140 :: s141 :: s142 :: s143 :: s144 :: []).toArray, []⟩ wq) :
    Code.wp Tryz.prog (regionAt Tryz.f31 13) Q ⟨(.string (bs l) :: .int .i64 (k : Int) :: s2 :: s3 :: s4 :: s5 :: s6 :: .int .i64 (n : Int) :: s8 :: s9 :: s10 :: s11 :: .bool x :: .bool y :: s14 :: s15 :: s16 :: s17 :: s18 :: s19 :: s20 :: s21 :: s22 :: s23 :: s24 :: s25 :: s26 :: s27 :: s28 :: s29 :: s30 :: s31 :: s32 :: s33 :: s34 :: s35 :: s36 :: s37 :: s38 :: s39 :: s40 :: s41 :: s42 :: s43 :: s44 :: s45 :: s46 :: s47 :: s48 :: s49 :: s50 :: s51 :: s52 :: s53 :: s54 :: s55 :: s56 :: s57 :: s58 :: s59 :: s60 :: s61 :: s62 :: s63 :: s64 :: s65 :: s66 :: s67 :: s68 :: s69 :: s70 :: s71 :: s72 :: s73 :: s74 :: s75 :: s76 :: s77 :: s78 :: s79 :: s80 :: s81 :: s82 :: s83 :: s84 :: s85 :: s86 :: s87 :: s88 :: s89 :: s90 :: s91 :: s92 :: s93 :: s94 :: s95 :: s96 :: s97 :: s98 :: s99 :: s100 :: s101 :: s102 :: s103 :: s104 :: s105 :: s106 :: s107 :: s108 :: s109 :: s110 :: s111 :: s112 :: s113 :: s114 :: s115 :: s116 :: s117 :: s118 :: s119 :: s120 :: s121 :: s122 :: s123 :: s124 :: s125 :: s126 :: s127 :: s128 :: s129 :: s130 :: s131 :: s132 :: s133 :: s134 :: s135 :: s136 :: s137 :: s138 :: s139 :: s140 :: s141 :: s142 :: s143 :: s144 :: []).toArray, []⟩ w4 := by
  replace hq := Lib.hid hq
  conv => arg 2; whnf
  go_wp2_with fail
  exact hq.out _ _ _ _ _ _ _ _ rfl

set_option maxHeartbeats 2000000 in
set_option maxRecDepth 100000 in
theorem kind_opens (a b : Int) (PA PB x y : Bool) (g1 : Nat) (v9 : Bool) (w4 : World) (_hPA : punctB a = PA) (hPB : punctB b = PB) (z2 : w4.cell? ⟨g1, 2, none⟩ = some (.bool v9)) (k4 : w4.frozen? ⟨g1, 2, none⟩ = false)
    (s0 s1 s2 s3 s4 s5 s6 s7 s10 s11 s15 s16 s17 s18 s19 s20 s21 s22 s23 s24 s25 s26 s27 s28 s29 s30 s31 s32 s33 s34 s35 s36 s37 s38 s39 s40 s41 s42 s43 s44 s45 s46 s47 s48 s49 s50 s51 s52 s53 s54 s55 s56 s57 s58 s59 s60 s61 s62 s63 s64 s65 s66 s67 s68 s69 s70 s71 s72 s73 s74 s75 s76 s77 s78 s79 s80 s81 s82 s83 s84 s85 s86 s87 s88 s89 s90 s91 s92 s93 s94 s95 s96 s97 s98 s99 s100 s101 s102 s103 s104 s105 s106 s107 s108 s109 s110 s111 s112 s113 s114 s115 s116 s117 s118 s119 s120 s121 s122 s123 s124 s125 s126 s127 s128 s129 s130 s131 s132 s133 s134 s135 s136 s137 s138 s139 s140 s141 s142 s143 s144 : Value) (Q : Exit → Act → World → Prop)
    (hq : ∀ (v121 v122 v123 v124 v125 v126 v127 v128 v129 v130 : Value) (wq : World), wq = w4.setCell ⟨g1, 2, none⟩ (.bool (x && (!y || PB))) → Q .normal ⟨(s0 :: s1 :: s2 :: s3 :: s4 :: s5 :: s6 :: s7 :: .int .i32 b :: .int .i32 a :: s10 :: s11 :: .bool x :: .bool y :: .pointer (some ⟨g1, 0, none⟩) :: s15 :: s16 :: s17 :: s18 :: s19 :: s20 :: s21 :: s22 :: s23 :: s24 :: s25 :: s26 :: s27 :: s28 :: s29 :: s30 :: s31 :: s32 :: s33 :: s34 :: s35 :: s36 :: s37 :: s38 :: s39 :: s40 :: s41 :: s42 :: s43 :: s44 :: s45 :: s46 :: s47 :: s48 :: s49 :: s50 :: s51 :: s52 :: s53 :: s54 :: s55 :: s56 :: s57 :: s58 :: s59 :: s60 :: s61 :: s62 :: s63 :: s64 :: s65 :: s66 :: s67 :: s68 :: s69 :: s70 :: s71 :: s72 :: s73 :: s74 :: s75 :: s76 :: s77 :: s78 :: s79 :: s80 :: s81 :: s82 :: s83 :: s84 :: s85 :: s86 :: s87 :: s88 :: s89 :: s90 :: s91 :: s92 :: s93 :: s94 :: s95 :: s96 :: s97 :: s98 :: s99 :: s100 :: s101 :: s102 :: s103 :: s104 :: s105 :: s106 :: s107 :: s108 :: s109 :: s110 :: s111 :: s112 :: s113 :: s114 :: s115 :: s116 :: s117 :: s118 :: s119 :: s120 :: v121 :: v122 :: v123 :: v124 :: v125 :: v126 :: v127 :: v128 :: v129 :: v130 :: s131 :: s132 :: s133 :: s134 :: s135 :: s136 :: s137 :: s138 :: s139 :: s140 :: s141 :: s142 :: s143 :: s144 :: []).toArray, []⟩ wq) :
    Code.wp Tryz.prog (regionAt Tryz.f31 15) Q ⟨(s0 :: s1 :: s2 :: s3 :: s4 :: s5 :: s6 :: s7 :: .int .i32 b :: .int .i32 a :: s10 :: s11 :: .bool x :: .bool y :: .pointer (some ⟨g1, 0, none⟩) :: s15 :: s16 :: s17 :: s18 :: s19 :: s20 :: s21 :: s22 :: s23 :: s24 :: s25 :: s26 :: s27 :: s28 :: s29 :: s30 :: s31 :: s32 :: s33 :: s34 :: s35 :: s36 :: s37 :: s38 :: s39 :: s40 :: s41 :: s42 :: s43 :: s44 :: s45 :: s46 :: s47 :: s48 :: s49 :: s50 :: s51 :: s52 :: s53 :: s54 :: s55 :: s56 :: s57 :: s58 :: s59 :: s60 :: s61 :: s62 :: s63 :: s64 :: s65 :: s66 :: s67 :: s68 :: s69 :: s70 :: s71 :: s72 :: s73 :: s74 :: s75 :: s76 :: s77 :: s78 :: s79 :: s80 :: s81 :: s82 :: s83 :: s84 :: s85 :: s86 :: s87 :: s88 :: s89 :: s90 :: s91 :: s92 :: s93 :: s94 :: s95 :: s96 :: s97 :: s98 :: s99 :: s100 :: s101 :: s102 :: s103 :: s104 :: s105 :: s106 :: s107 :: s108 :: s109 :: s110 :: s111 :: s112 :: s113 :: s114 :: s115 :: s116 :: s117 :: s118 :: s119 :: s120 :: s121 :: s122 :: s123 :: s124 :: s125 :: s126 :: s127 :: s128 :: s129 :: s130 :: s131 :: s132 :: s133 :: s134 :: s135 :: s136 :: s137 :: s138 :: s139 :: s140 :: s141 :: s142 :: s143 :: s144 :: []).toArray, []⟩ w4 := by
  replace hq := Lib.hid hq
  cases x <;> cases y <;> cases PB
  all_goals
    conv => arg 2; whnf
    go_wp2_with (go_at_call 54; refine (rpunct_any _ _).mono ?_; rintro e w9 ⟨rfl, rfl⟩; rw [hPB])
    exact hq.out _ _ _ _ _ _ _ _ _ _ _ rfl

set_option maxHeartbeats 2000000 in
set_option maxRecDepth 100000 in
theorem kind_closes (a b : Int) (PA PB x y : Bool) (g1 : Nat) (v9 : Bool) (w4 : World) (hPA : punctB a = PA) (_hPB : punctB b = PB) (z2 : w4.cell? ⟨g1, 3, none⟩ = some (.bool v9)) (k4 : w4.frozen? ⟨g1, 3, none⟩ = false)
    (s0 s1 s2 s3 s4 s5 s6 s7 s10 s11 s15 s16 s17 s18 s19 s20 s21 s22 s23 s24 s25 s26 s27 s28 s29 s30 s31 s32 s33 s34 s35 s36 s37 s38 s39 s40 s41 s42 s43 s44 s45 s46 s47 s48 s49 s50 s51 s52 s53 s54 s55 s56 s57 s58 s59 s60 s61 s62 s63 s64 s65 s66 s67 s68 s69 s70 s71 s72 s73 s74 s75 s76 s77 s78 s79 s80 s81 s82 s83 s84 s85 s86 s87 s88 s89 s90 s91 s92 s93 s94 s95 s96 s97 s98 s99 s100 s101 s102 s103 s104 s105 s106 s107 s108 s109 s110 s111 s112 s113 s114 s115 s116 s117 s118 s119 s120 s121 s122 s123 s124 s125 s126 s127 s128 s129 s130 s131 s132 s133 s134 s135 s136 s137 s138 s139 s140 s141 s142 s143 s144 : Value) (Q : Exit → Act → World → Prop)
    (hq : ∀ (v131 v132 v133 v134 v135 v136 v137 v138 v139 v140 : Value) (wq : World), wq = w4.setCell ⟨g1, 3, none⟩ (.bool (y && (!x || PA))) → Q .normal ⟨(s0 :: s1 :: s2 :: s3 :: s4 :: s5 :: s6 :: s7 :: .int .i32 b :: .int .i32 a :: s10 :: s11 :: .bool x :: .bool y :: .pointer (some ⟨g1, 0, none⟩) :: s15 :: s16 :: s17 :: s18 :: s19 :: s20 :: s21 :: s22 :: s23 :: s24 :: s25 :: s26 :: s27 :: s28 :: s29 :: s30 :: s31 :: s32 :: s33 :: s34 :: s35 :: s36 :: s37 :: s38 :: s39 :: s40 :: s41 :: s42 :: s43 :: s44 :: s45 :: s46 :: s47 :: s48 :: s49 :: s50 :: s51 :: s52 :: s53 :: s54 :: s55 :: s56 :: s57 :: s58 :: s59 :: s60 :: s61 :: s62 :: s63 :: s64 :: s65 :: s66 :: s67 :: s68 :: s69 :: s70 :: s71 :: s72 :: s73 :: s74 :: s75 :: s76 :: s77 :: s78 :: s79 :: s80 :: s81 :: s82 :: s83 :: s84 :: s85 :: s86 :: s87 :: s88 :: s89 :: s90 :: s91 :: s92 :: s93 :: s94 :: s95 :: s96 :: s97 :: s98 :: s99 :: s100 :: s101 :: s102 :: s103 :: s104 :: s105 :: s106 :: s107 :: s108 :: s109 :: s110 :: s111 :: s112 :: s113 :: s114 :: s115 :: s116 :: s117 :: s118 :: s119 :: s120 :: s121 :: s122 :: s123 :: s124 :: s125 :: s126 :: s127 :: s128 :: s129 :: s130 :: v131 :: v132 :: v133 :: v134 :: v135 :: v136 :: v137 :: v138 :: v139 :: v140 :: s141 :: s142 :: s143 :: s144 :: []).toArray, []⟩ wq) :
    Code.wp Tryz.prog (regionAt Tryz.f31 16) Q ⟨(s0 :: s1 :: s2 :: s3 :: s4 :: s5 :: s6 :: s7 :: .int .i32 b :: .int .i32 a :: s10 :: s11 :: .bool x :: .bool y :: .pointer (some ⟨g1, 0, none⟩) :: s15 :: s16 :: s17 :: s18 :: s19 :: s20 :: s21 :: s22 :: s23 :: s24 :: s25 :: s26 :: s27 :: s28 :: s29 :: s30 :: s31 :: s32 :: s33 :: s34 :: s35 :: s36 :: s37 :: s38 :: s39 :: s40 :: s41 :: s42 :: s43 :: s44 :: s45 :: s46 :: s47 :: s48 :: s49 :: s50 :: s51 :: s52 :: s53 :: s54 :: s55 :: s56 :: s57 :: s58 :: s59 :: s60 :: s61 :: s62 :: s63 :: s64 :: s65 :: s66 :: s67 :: s68 :: s69 :: s70 :: s71 :: s72 :: s73 :: s74 :: s75 :: s76 :: s77 :: s78 :: s79 :: s80 :: s81 :: s82 :: s83 :: s84 :: s85 :: s86 :: s87 :: s88 :: s89 :: s90 :: s91 :: s92 :: s93 :: s94 :: s95 :: s96 :: s97 :: s98 :: s99 :: s100 :: s101 :: s102 :: s103 :: s104 :: s105 :: s106 :: s107 :: s108 :: s109 :: s110 :: s111 :: s112 :: s113 :: s114 :: s115 :: s116 :: s117 :: s118 :: s119 :: s120 :: s121 :: s122 :: s123 :: s124 :: s125 :: s126 :: s127 :: s128 :: s129 :: s130 :: s131 :: s132 :: s133 :: s134 :: s135 :: s136 :: s137 :: s138 :: s139 :: s140 :: s141 :: s142 :: s143 :: s144 :: []).toArray, []⟩ w4 := by
  replace hq := Lib.hid hq
  cases x <;> cases y <;> cases PA
  all_goals
    conv => arg 2; whnf
    go_wp2_with (go_at_call 54; refine (rpunct_any _ _).mono ?_; rintro e w9 ⟨rfl, rfl⟩; rw [hPA])
    exact hq.out _ _ _ _ _ _ _ _ _ _ _ rfl
end Go.Proofs.YtkfhkfagmokjpaaGreatDoor

section
namespace Go.Proofs.YtkfhkfagmokjpaaGreatDoor
open Go.RowKit

end Go.Proofs.YtkfhkfagmokjpaaGreatDoor
end

section
namespace Go.Proofs.YtkfhkfagmokjpaaGreatDoor.Em

/-- what the program asks of two runs -/
def fitP (x y : R) : Bool := x.ch == y.ch && ((x.n % 3 == 0 && y.n % 3 == 0) || !(x.c || y.o) || (x.n + y.n) % 3 != 0)
/-- all counts are held -/
def Held (l : List R) : Prop := ∀ r ∈ l, 0 ≤ r.n ∧ r.n ≤ 100
def sortN (y : R) : Nat := y.ch.toNat * 6 + (y.n % 3).toNat + (if y.o then 3 else 0)
theorem sortN_lt (y : R) : sortN y < 1536 := by
  have := y.ch.toNat_lt
  unfold sortN
  split <;> omega
/-- of one sort: what fits one fits the other -/
theorem fitP_sort {x y z : R} (h : sortN y = sortN z) : fitP x y = fitP x z := by
  unfold sortN at h
  have hy := y.ch.toNat_lt
  have hz := z.ch.toNat_lt
  have h1 : y.ch.toNat = z.ch.toNat ∧ y.n % 3 = z.n % 3 ∧ y.o = z.o := by
    cases ho : y.o <;> cases ho' : z.o <;> rw [ho, ho'] at h <;> simp only [if_true, if_false, Bool.false_eq_true] at h <;> refine ⟨?_, ?_, ?_⟩ <;> first | rfl | omega
  obtain ⟨e1, e2, e3⟩ := h1
  have e4 : y.ch = z.ch := UInt8.toNat_inj.1 e1
  have e5 : (x.n + y.n) % 3 = (x.n + z.n) % 3 := by omega
  unfold fitP
  rw [e2, e3, e4, e5]
theorem held_in {n : Int} (h0 : 0 ≤ n) (h1 : n ≤ 100) : (held n : Int) = n := by unfold held; omega
theorem get_held {l : List R} (hl : Held l) (i : Nat) : 0 ≤ (get l i).n ∧ (get l i).n ≤ 100 := by
  rcases Nat.lt_or_ge i l.length with h | h
  · rw [get_at h]; exact hl _ (List.getElem_mem h)
  · simp [get, List.getD, List.getElem?_eq_none h, none_]
theorem fits_P {x y : R} (hx : 0 ≤ x.n ∧ x.n ≤ 100) (hy : 0 ≤ y.n ∧ y.n ≤ 100) (ho : x.o = true) (hc : y.c = true) : (x.ch == y.ch && fits x y) = fitP x y := by
  have e1 := held_in hx.1 hx.2
  have e2 := held_in hy.1 hy.2
  have f1 : (held x.n % 3 == 0) = (x.n % 3 == 0) := by rw [Bool.eq_iff_iff]; simp; omega
  have f2 : (held y.n % 3 == 0) = (y.n % 3 == 0) := by rw [Bool.eq_iff_iff]; simp; omega
  have f3 : ((held x.n + held y.n) % 3 == 0) = ((x.n + y.n) % 3 == 0) := by rw [Bool.eq_iff_iff]; simp; omega
  unfold fits fitP
  rw [f1, f2, f3, ho, hc, bne]
  cases (x.n + y.n) % 3 == 0 <;> cases x.c <;> cases y.o <;> simp
theorem ok_P {l : List R} (hl : Held l) {L : List Nat} {j c : Nat} (hc : (get l c).c = true) : ok l L j c = ((get l j).o && decide (0 < lf L j) && fitP (get l j) (get l c)) := by
  unfold ok
  cases ho : (get l j).o with
  | false => simp
  | true =>
    rw [← fits_P (get_held hl j) (get_held hl c) ho hc]
    cases decide (0 < lf L j) <;> simp

/-! ### the nearest one -/
theorem opener_some {l : List R} {L : List Nat} {c o : Nat} (h : ok l L o c = true) : ∀ k, o < k → (∀ j, o < j → j < k → ok l L j c = false) → opener l L c k = some o
  | 0, h1, _ => by omega
  | k + 1, h1, h2 => by
    rcases Nat.lt_or_eq_of_le (Nat.lt_succ_iff.1 h1) with h3 | h3
    · rw [opener_no (h2 k h3 (by omega))]
      exact opener_some h k h3 fun j h4 h5 => h2 j h4 (by omega)
    · subst h3; exact opener_yes h
theorem opener_none {l : List R} {L : List Nat} {c : Nat} : ∀ k, (∀ j, j < k → ok l L j c = false) → opener l L c k = none
  | 0, _ => rfl
  | k + 1, h => by rw [opener_no (h k (by omega))]; exact opener_none k fun j h1 => h j (by omega)

/-! ### the program's state beside the document's -/
structure Sim (l : List R) (c : Nat) (st : St) (L O N : List Nat) : Prop where
  len : L.length = l.length
  len' : st.1.length = l.length
  nlen : N.length = 1536
  sorted : O.Pairwise (· < ·)
  mem : ∀ j, j ∈ O ↔ j < c ∧ (get l j).o = true ∧ 0 < lf st.1 j
  left : ∀ j ∈ O, lf L j = lf st.1 j
  rest : ∀ j, c < j → lf st.1 j = held (get l j).n
  none : ∀ y j, j ∈ O → j < lf N (sortN y) → fitP (get l j) y = false
  nle : ∀ s, lf N s ≤ c
  bd : ∀ i, lf st.1 i ≤ 100
  few : st.2.length + lf st.1 c ≤ 100 * (c + 1)
/-- at a run: what is left of it is known -/
def SimI (l : List R) (c : Nat) (st : St) (L O N : List Nat) : Prop := Sim l c st L O N ∧ lf L c = lf st.1 c
/-- ahead of a run -/
def SimB (l : List R) (c : Nat) (st : St) (L O N : List Nat) : Prop := Sim l c st L O N ∧ lf st.1 c = held (get l c).n ∧ st.2.length ≤ 100 * c

theorem lf_set {L : List Nat} {i x j : Nat} (h : i < L.length) : lf (L.set i x) j = if j = i then x else lf L j := by
  unfold lf
  simp only [List.getD, List.getElem?_set]
  by_cases hj : i = j
  · subst hj; rw [if_pos rfl, if_pos h, if_pos rfl]; rfl
  · rw [if_neg hj, if_neg (fun e => hj e.symm)]
theorem lf_out {L : List Nat} {j : Nat} (h : L.length ≤ j) : lf L j = 0 := by simp [lf, List.getD, List.getElem?_eq_none h]

theorem Sim.open_lt {l : List R} {c : Nat} {st : St} {L O N : List Nat} (h : Sim l c st L O N) {j : Nat} (hj : j ∈ O) : j < c ∧ j < l.length := by
  have := (h.mem j).1 hj
  exact ⟨this.1, by have := lf_pos_lt this.2.2; rw [h.len'] at this; exact this⟩
theorem Sim.open_few {l : List R} {c : Nat} {st : St} {L O N : List Nat} (h : Sim l c st L O N) : O.length ≤ c := by
  have : ∀ (k : Nat) (hk : k < O.length), k ≤ O[k] := by
    intro k
    induction k with
    | zero => intro _; omega
    | succ k ih =>
      intro hk
      have h1 := ih (by omega)
      have h2 := (List.pairwise_iff_getElem.1 h.sorted) k (k + 1) (by omega) hk (by omega)
      omega
  rcases Nat.eq_zero_or_pos O.length with h0 | h0
  · omega
  · have h1 := this (O.length - 1) (by omega)
    have h2 := (h.open_lt (List.getElem_mem (l := O) (n := O.length - 1) (by omega))).1
    omega

/-- the beginning -/
theorem sim_start (l : List R) : SimB l 0 (l.map (fun r => held r.n), []) (List.replicate l.length 0) [] (List.replicate 1536 0) := by
  have hz : ∀ (n s : Nat), lf (List.replicate n 0) s = 0 := by
    intro n s
    unfold lf
    simp only [List.getD, List.getElem?_replicate]
    split <;> rfl
  have hh : ∀ j, lf (l.map (fun r => held r.n)) j = held (get l j).n := by
    intro j
    rcases Nat.lt_or_ge j l.length with h | h
    · rw [lf_at (by simpa using h), List.getElem_map, get_at h]
    · rw [lf_out (by simpa using h)]; simp [get, List.getD, List.getElem?_eq_none h, none_, held]; omega
  refine ⟨⟨by rw [List.length_replicate], by simp, by rw [List.length_replicate], List.Pairwise.nil, fun j => ⟨fun h => by simp at h, fun h => by omega⟩, fun j h => by simp at h, fun j _ => hh j, fun y j h => by simp at h, fun s => by rw [hz]; omega, ?_, ?_⟩, hh 0, by simp⟩
  · intro i; simp only; rw [hh]; exact held_le _
  · simp only [List.length_nil]; rw [hh]; have := held_le (get l 0).n; omega
/-- what is left of a run is set -/
theorem sim_in {l : List R} {c : Nat} {st : St} {L O N : List Nat} (h : SimB l c st L O N) (hc : c < l.length) : SimI l c st (L.set c (held (get l c).n)) O N := by
  obtain ⟨h, h1, _⟩ := h
  have hcl : c < L.length := by rw [h.len]; exact hc
  refine ⟨⟨by rw [List.length_set]; exact h.len, h.len', h.nlen, h.sorted, h.mem, fun j hj => ?_, h.rest, h.none, h.nle, h.bd, h.few⟩, by rw [lf_set hcl, if_pos rfl, h1]⟩
  rw [lf_set hcl, if_neg (by have := h.open_lt hj; omega)]
  exact h.left j hj
/-- none opens for it -/
theorem sim_none {l : List R} {c : Nat} {st : St} {L O N : List Nat} (h : SimI l c st L O N) (hn : ∀ j ∈ O, fitP (get l j) (get l c) = false) : SimI l c st L O (N.set (sortN (get l c)) c) := by
  obtain ⟨h, h1⟩ := h
  have hs : sortN (get l c) < N.length := by rw [h.nlen]; exact sortN_lt _
  refine ⟨⟨h.len, h.len', by rw [List.length_set]; exact h.nlen, h.sorted, h.mem, h.left, h.rest, fun y j hj hlt => ?_, fun s => ?_, h.bd, h.few⟩, h1⟩
  · rw [lf_set hs] at hlt
    split at hlt
    · rename_i he
      rw [fitP_sort he]; exact hn j hj
    · exact h.none y j hj hlt
  · rw [lf_set hs]
    split
    · exact Nat.le_refl _
    · exact h.nle s
theorem sim_stop {l : List R} (hl : Held l) {c : Nat} {st : St} {L O N : List Nat} (h : SimI l c st L O N) (hc : (get l c).c = true) (hn : ∀ j ∈ O, fitP (get l j) (get l c) = false) : inner l c st = st := by
  refine inner_none (opener_none _ fun j hj => ?_)
  rw [ok_P hl hc]
  by_cases hm : j ∈ O
  · rw [hn j hm, Bool.and_false]
  · have := mt (h.1.mem j).2 hm
    cases ho : (get l j).o with
    | false => rfl
    | true =>
      have h0 : ¬ 0 < lf st.1 j := fun h0 => this ⟨hj, ho, h0⟩
      rw [decide_eq_false h0]; rfl
/-- the nearest that is open -/
theorem sim_found {l : List R} (hl : Held l) {c : Nat} {st : St} {L O N : List Nat} (h : SimI l c st L O N) (hc : (get l c).c = true) {i : Nat} (hi : i < O.length) (hf : fitP (get l O[i]) (get l c) = true)
    (hn : ∀ k (hk : k < O.length), i < k → fitP (get l O[k]) (get l c) = false) : opener l st.1 c c = some O[i] := by
  have hm := (h.1.mem O[i]).1 (List.getElem_mem hi)
  refine opener_some (by rw [ok_P hl hc, hm.2.1, decide_eq_true hm.2.2, hf]; rfl) c hm.1 fun j h1 h2 => ?_
  rw [ok_P hl hc]
  by_cases hj : j ∈ O
  · obtain ⟨k, hk, rfl⟩ := List.getElem_of_mem hj
    have hik : i < k := by
      rcases Nat.lt_or_ge i k with h3 | h3
      · exact h3
      · rcases Nat.lt_or_eq_of_le h3 with h4 | h4
        · have := (List.pairwise_iff_getElem.1 h.1.sorted) k i hk hi h4; omega
        · subst h4; omega
    rw [hn k hk hik, Bool.and_false]
  · have := mt (h.1.mem j).2 hj
    cases ho : (get l j).o with
    | false => rfl
    | true =>
      have h0 : ¬ 0 < lf st.1 j := fun h0 => this ⟨h2, ho, h0⟩
      rw [decide_eq_false h0]; rfl
/-- of a rising row: what is ahead of a place -/
theorem mem_take {O : List Nat} (hs : O.Pairwise (· < ·)) {i : Nat} (hi : i < O.length) (j : Nat) : j ∈ O.take i ↔ j ∈ O ∧ j < O[i] := by
  have hp := List.pairwise_iff_getElem.1 hs
  constructor
  · intro h
    obtain ⟨k, hk, rfl⟩ := List.getElem_of_mem h
    rw [List.length_take] at hk
    rw [List.getElem_take]
    exact ⟨List.getElem_mem _, hp k i (by omega) hi (by omega)⟩
  · rintro ⟨h, hlt⟩
    obtain ⟨k, hk, rfl⟩ := List.getElem_of_mem h
    have hki : k < i := by
      rcases Nat.lt_or_ge k i with h3 | h3
      · exact h3
      · rcases Nat.lt_or_eq_of_le h3 with h4 | h4
        · have := hp i k hi hk h4; omega
        · subst h4; omega
    exact List.mem_take_iff_getElem.2 ⟨k, by omega, rfl⟩
/-- a pair is made -/
def pairL (L : List Nat) (o c s : Nat) : List Nat := (L.set o (lf L o - s)).set c (lf L c - s)
def pairO (O : List Nat) (i z : Nat) : List Nat := if z = 0 then O.take i else O.take (i + 1)
theorem sim_pair {l : List R} {c : Nat} {st : St} {L O N : List Nat} (h : SimI l c st L O N) (hcl : c < l.length) (hpos : 0 < lf st.1 c) {i : Nat} (hi : i < O.length) {s : Nat} (hs : s = size st.1 O[i] c) :
    SimI l c (lower st.1 O[i] c s, st.2 ++ [(O[i], c, s)]) (pairL L O[i] c s) (pairO O i (lf L O[i] - s)) N := by
  obtain ⟨h, h1⟩ := h
  have hmem := List.getElem_mem hi
  have hm := (h.mem O[i]).1 hmem
  have hol := h.open_lt hmem
  have hlo := h.left _ hmem
  have hsz := size_pos st.1 O[i] c
  have hsl := size_le hm.2.2 hpos
  rw [← hs] at hsz hsl
  have hO : ∀ j, j ∈ pairO O i (lf L O[i] - s) ↔ (j ∈ O ∧ j < O[i]) ∨ (j = O[i] ∧ 0 < lf L O[i] - s) := by
    intro j
    unfold pairO
    split
    · rename_i hz
      rw [mem_take h.sorted hi]
      exact ⟨fun h => .inl h, fun h => h.elim id fun h => by omega⟩
    · rename_i hz
      rw [List.take_succ_eq_append_getElem hi, List.mem_append, mem_take h.sorted hi, List.mem_singleton]
      exact ⟨fun h => h.elim .inl fun h => .inr ⟨h, by omega⟩, fun h => h.elim .inl fun h => .inr h.1⟩
  have hsub : ∀ j, j ∈ pairO O i (lf L O[i] - s) → j ∈ O := fun j hj => by
    rcases (hO j).1 hj with h | ⟨rfl, _⟩
    · exact h.1
    · exact hmem
  have hlow : ∀ j, j < l.length → lf (lower st.1 O[i] c s) j = if j = O[i] ∨ j = c then lf st.1 j - s else if O[i] < j ∧ j < c then 0 else lf st.1 j := fun j hj => lf_lower (by rw [h.len']; exact hj)
  have hpl : ∀ j, lf (pairL L O[i] c s) j = if j = c then lf L c - s else if j = O[i] then lf L O[i] - s else lf L j := by
    intro j
    unfold pairL
    rw [lf_set (by rw [List.length_set, h.len]; exact hcl), lf_set (by rw [h.len]; exact hol.2)]
  refine ⟨⟨by unfold pairL; rw [List.length_set, List.length_set]; exact h.len, by rw [lower_len]; exact h.len', h.nlen, ?_, ?_, ?_, ?_, ?_, h.nle, ?_, ?_⟩, ?_⟩
  · unfold pairO
    split
    · exact h.sorted.sublist (List.take_sublist _ _)
    · exact h.sorted.sublist (List.take_sublist _ _)
  · intro j
    rw [hO]
    simp only
    constructor
    · rintro (⟨hj, hlt⟩ | ⟨rfl, hz⟩)
      · have hk := (h.mem j).1 hj
        refine ⟨hk.1, hk.2.1, ?_⟩
        rw [hlow j (h.open_lt hj).2, if_neg (by omega), if_neg (by omega)]
        exact hk.2.2
      · refine ⟨hm.1, hm.2.1, ?_⟩
        rw [hlow _ hol.2, if_pos (.inl rfl)]; omega
    · rintro ⟨h3, h4, h5⟩
      have hjl : j < l.length := by omega
      rw [hlow j hjl] at h5
      split at h5
      · rename_i he
        obtain rfl : j = O[i] := by omega
        exact .inr ⟨rfl, by omega⟩
      · split at h5
        · omega
        · refine .inl ⟨(h.mem j).2 ⟨h3, h4, h5⟩, by omega⟩
  · intro j hj
    simp only
    have hjc := (h.open_lt (hsub j hj)).1
    have hle := (h.open_lt (hsub j hj)).2
    rw [hpl, hlow j hle, if_neg (by omega)]
    rcases (hO j).1 hj with ⟨h3, h4⟩ | ⟨rfl, _⟩
    · rw [if_neg (by omega), if_neg (by omega), if_neg (by omega)]
      exact h.left j h3
    · rw [if_pos rfl, if_pos (.inl rfl), hlo]
  · intro j hj
    simp only
    rcases Nat.lt_or_ge j l.length with h3 | h3
    · rw [hlow j h3, if_neg (by omega), if_neg (by omega)]
      exact h.rest j hj
    · rw [lf_out (by rw [lower_len, h.len']; exact h3), ← h.rest j hj, lf_out (by rw [h.len']; exact h3)]
  · intro y j hj hlt
    exact h.none y j (hsub j hj) hlt
  · intro j
    exact Nat.le_trans (lf_lower_le _ _ _ _ _) (h.bd j)
  · have hfew := h.few
    simp only [List.length_append, List.length_cons, List.length_nil]
    rw [hlow c hcl, if_pos (.inr rfl)]
    omega
  · simp only
    rw [hpl, if_pos rfl, hlow c hcl, if_pos (.inr rfl), h1]
/-- the next one -/
theorem sim_next {l : List R} {c : Nat} {st : St} {L O N : List Nat} (h : SimI l c st L O N) (hc : c < l.length) : SimB l (c + 1) st L (if (get l c).o = true ∧ 0 < lf L c then O ++ [c] else O) N := by
  obtain ⟨h, h1⟩ := h
  have hb := h.bd c
  have hb1 := h.bd (c + 1)
  have hf := h.few
  have hO : ∀ j, j ∈ (if (get l c).o = true ∧ 0 < lf L c then O ++ [c] else O) ↔ j ∈ O ∨ (j = c ∧ (get l c).o = true ∧ 0 < lf L c) := by
    intro j
    split
    · rename_i hy
      rw [List.mem_append, List.mem_singleton]
      exact ⟨fun h => h.elim .inl fun h => .inr ⟨h, hy⟩, fun h => h.elim .inl fun h => .inr h.1⟩
    · rename_i hy
      exact ⟨.inl, fun h => h.elim id fun h => absurd h.2 hy⟩
  refine ⟨⟨h.len, h.len', h.nlen, ?_, ?_, ?_, fun j hj => h.rest j (by omega), ?_, fun s => by have := h.nle s; omega, h.bd, by omega⟩, h.rest (c + 1) (by omega), by omega⟩
  · split
    · rw [List.pairwise_append]
      refine ⟨h.sorted, by simp, fun a ha b hb => ?_⟩
      obtain rfl : b = c := by simpa using hb
      exact (h.open_lt ha).1
    · exact h.sorted
  · intro j
    rw [hO]
    constructor
    · rintro (hj | ⟨rfl, h3, h4⟩)
      · have := (h.mem j).1 hj
        exact ⟨by omega, this.2⟩
      · exact ⟨by omega, h3, by rw [← h1]; exact h4⟩
    · rintro ⟨h3, h4, h5⟩
      rcases Nat.lt_or_eq_of_le (Nat.lt_succ_iff.1 h3) with h6 | rfl
      · exact .inl ((h.mem j).2 ⟨h6, h4, h5⟩)
      · exact .inr ⟨rfl, h4, by rw [h1]; exact h5⟩
  · intro j hj
    rcases (hO j).1 hj with h3 | ⟨rfl, _⟩
    · exact h.left j h3
    · exact h1
  · intro y j hj hlt
    rcases (hO j).1 hj with h3 | ⟨rfl, _⟩
    · exact h.none y j h3 hlt
    · have := h.nle (sortN y); omega

/-! ### held counts make the same pairs -/
def hold (l : List R) : List R := l.map fun r => ⟨r.ch, held r.n, r.o, r.c⟩
theorem hold_held (l : List R) : Held (hold l) := by
  intro r hr
  obtain ⟨x, _, rfl⟩ := List.mem_map.1 hr
  have := held_le x.n
  exact ⟨by simp only; omega, by simp only; omega⟩
theorem held_held (n : Int) : held (held n : Int) = held n := by have := held_le n; unfold held at *; omega
theorem get_hold (l : List R) (i : Nat) : get (hold l) i = ⟨(get l i).ch, held (get l i).n, (get l i).o, (get l i).c⟩ := by
  rcases Nat.lt_or_ge i l.length with h | h
  · rw [get_at (by simpa [hold] using h), get_at h]; simp [hold]
  · simp [get, hold, List.getD, List.getElem?_eq_none h, none_, held]; omega
theorem ok_hold (l : List R) (L : List Nat) (o c : Nat) : ok (hold l) L o c = ok l L o c := by
  unfold ok fits
  rw [get_hold, get_hold]
  simp only [held_held]
theorem opener_hold (l : List R) (L : List Nat) (c : Nat) : ∀ k, opener (hold l) L c k = opener l L c k
  | 0 => rfl
  | k + 1 => by unfold opener; rw [ok_hold, opener_hold l L c k]
theorem innerF_hold (l : List R) (c : Nat) : ∀ (f : Nat) (st : St), innerF (hold l) c f st = innerF l c f st
  | 0, _ => rfl
  | f + 1, st => by
    unfold innerF
    rw [opener_hold, get_hold]
    simp only
    split
    · split
      · rfl
      · exact innerF_hold l c f _
    · rfl
theorem outer_hold (l : List R) : ∀ (k c : Nat) (st : St), outer (hold l) k c st = outer l k c st
  | 0, _, _ => rfl
  | k + 1, c, st => by
    unfold outer inner
    rw [innerF_hold, outer_hold l k]
theorem pairs_hold (l : List R) : pairs (hold l) = pairs l := by
  unfold pairs
  rw [outer_hold]
  have : (hold l).map (fun r => held r.n) = l.map (fun r => held r.n) := by simp [hold, held_held]
  rw [this]
  simp [hold]
end Go.Proofs.YtkfhkfagmokjpaaGreatDoor.Em
end

section
namespace Go.Proofs.YtkfhkfagmokjpaaGreatDoor
open Go.RowKit

def pmm (b : Nat) (cs : Array Value) (x : Option Part) (l : List Em.R) (vr : Value) (L : List Nat) (vl : Value) (O : List Nat) (vo : Value) (N : List Nat) (vn : Value) (P : List (Nat × Nat × Nat)) (vp : Value) : Nat → Option Part
  | 0 => some (.blk b cs 117)
  | 1 => some (.row 96 4 vr l.length (acells l))
  | 2 => some (.row 3 1 vl L.length (lcells L))
  | 3 => some (.row 3 1 vo O.length (lcells O))
  | 4 => some (.row 3 1 vn N.length (lcells N))
  | 5 => some (.row 98 3 vp P.length (pcells P))
  | 6 => x
  | _ => none
/-- where all lies -/
structure Vs where
  r : Value
  l : Value
  o : Value
  n : Value
  p : Value
def PM (B b : Nat) (x : Option Part) (v : Vs) (l : List Em.R) (L O N : List Nat) (P : List (Nat × Nat × Nat)) (w : World) : Prop := Hp w B (pmm b #[v.r, v.l, v.o, v.n, v.p] x l v.r L v.l O v.o N v.n P v.p)

theorem own_some {w : World} {B size n : Nat} {E : TypeId} {v : Value} {xs : List Value} (h : w.ownsRow B E size v n xs) (hn : 0 < n) : ∃ g c, v = .slice (some ⟨g, 0, none⟩) n c ∧ n ≤ c ∧ B ≤ g ∧ g < w.heap.size := by
  rcases h.2 with ⟨_, h0⟩ | ⟨g, c, cur, rfl, hB, hg, hc, _⟩
  · omega
  · exact ⟨g, c, rfl, hc, hB, (Array.getElem?_eq_some_iff.1 hg).1⟩
theorem lcells_len' (L : List Nat) : (lcells L).length = L.length := by simp [lcells]
theorem lcells_set' (L : List Nat) (i x : Nat) : (lcells L).set i (.int .i64 (x : Int)) = lcells (L.set i x) := by simp [lcells, List.map_set]
theorem lcells_snoc (L : List Nat) (x : Nat) : lcells (L ++ [x]) = lcells L ++ [.int .i64 (x : Int)] := by simp [lcells]
theorem lcells_take (L : List Nat) (k : Nat) : lcells (L.take k) = (lcells L).take k := by simp [lcells, List.map_take]
/-- the first ones of a row -/
theorem own_take {w : World} {B g n c : Nat} {E : TypeId} {O : List Nat} (h : w.ownsRow B E 1 (.slice (some ⟨g, 0, none⟩) n c) n (lcells O)) {k : Nat} (hk : k ≤ n) (hn : n = O.length) : w.ownsRow B E 1 (.slice (some ⟨g, 0, none⟩) k c) (O.take k).length (lcells (O.take k)) := by
  have hl : (O.take k).length = k := by rw [List.length_take]; omega
  refine ⟨by rw [lcells_len', Nat.mul_one], ?_⟩
  rcases h.2 with ⟨h0, _⟩ | ⟨g', c', cur, hv, hB, hg, hc, hm, hs, ht⟩
  · simp at h0
  · simp only [Value.slice.injEq, Option.some.injEq, Addr.mk.injEq, and_true, true_and] at hv
    obtain ⟨rfl, rfl⟩ := hv
    refine .inr ⟨g, c, cur, by rw [hl], hB, hg, by omega, hm, hs, ?_⟩
    rw [hl, lcells_take, ← ht, List.take_take]
    congr 1
    omega
theorem run_short {P : Program} {T : TypeId} (hT : P.underlying T = some (.slice (P.elem T))) (size : Nat) (hsz : ∀ w, (sizeOf (P.elem T)).run P w = .ok size w) (g n c hi : Nat) {v : Int} (hv : v = (hi : Int)) (h2 : hi ≤ c) (w : World) :
    (Instr.slice T (.slice (some ⟨g, 0, none⟩) n c) none (some (.int .i64 v)) none).run P w = .ok (.slice (some ⟨g, 0, none⟩) hi c) w := by
  subst hv
  rw [run_slice_h w T (some ⟨g, 0, none⟩) n c hT .i64 hi (by omega) (by omega), hsz]
  simp [sliced, Result.andThen]
  intro _
  unfold Addr.add
  split <;> simp_all

section
variable {B b : Nat} {x : Option Part} {v : Vs} {l : List Em.R} {L O N : List Nat} {P : List (Nat × Nat × Nat)} {w : World}
theorem PM.ext (h : PM B b x v l L O N P w) {u : World} (hb : Below w.heap.size w u) : PM B b x v l L O N P u := Hp.ext h hb
theorem PM.blk (h : PM B b x v l L O N P w) : B ≤ b ∧ b < w.heap.size ∧ (∀ j, w.frozen? ⟨b, j, none⟩ = false) ∧ w.cell? ⟨b, 0, none⟩ = some v.r ∧ w.cell? ⟨b, 1, none⟩ = some v.l ∧ w.cell? ⟨b, 2, none⟩ = some v.o ∧ w.cell? ⟨b, 3, none⟩ = some v.n ∧ w.cell? ⟨b, 4, none⟩ = some v.p := by
  obtain ⟨h1, h2, h3⟩ := Hp.base h (k := 0) rfl
  exact ⟨h1, h2, blk_free h3, blk_cell h3 0, blk_cell h3 1, blk_cell h3 2, blk_cell h3 3, blk_cell h3 4⟩
theorem PM.rowr (h : PM B b x v l L O N P w) : w.ownsRow B 96 4 v.r l.length (acells l) := Hp.own h (k := 1) rfl
theorem PM.rowl (h : PM B b x v l L O N P w) : w.ownsRow B 3 1 v.l L.length (lcells L) := Hp.own h (k := 2) rfl
theorem PM.rowo (h : PM B b x v l L O N P w) : w.ownsRow B 3 1 v.o O.length (lcells O) := Hp.own h (k := 3) rfl
theorem PM.rown (h : PM B b x v l L O N P w) : w.ownsRow B 3 1 v.n N.length (lcells N) := Hp.own h (k := 4) rfl
theorem PM.rowp (h : PM B b x v l L O N P w) : w.ownsRow B 98 3 v.p P.length (pcells P) := Hp.own h (k := 5) rfl
/-- what is left of one is set -/
theorem PM.setL (h : PM B b x v l L O N P w) {g c : Nat} (hv : v.l = .slice (some ⟨g, 0, none⟩) L.length c) (i y : Nat) : PM B b x v l (L.set i y) O N P (w.setCell ⟨g, i, none⟩ (.int .i64 (y : Int))) := by
  have ho := h.rowl
  rw [hv] at ho
  refine Hp.put (k := 2) h (a := .row 3 1 v.l L.length (lcells L)) (a' := .row 3 1 v.l (L.set i y).length (lcells (L.set i y))) rfl (by rw [Part.block, hv]; exact grown_set w ⟨g, i, none⟩ _) ?_ (fun g h => .inl h) ?_ rfl
  · show World.ownsRow _ _ _ _ _ _ _
    rw [hv, List.length_set, ← lcells_set']; exact (ho.stored i _).1
  · intro j hj
    match j with
    | 0 | 1 | 3 | 4 | 5 | 6 => rfl
    | 2 => exact absurd rfl hj
    | _ + 7 => rfl
theorem PM.setN (h : PM B b x v l L O N P w) {g c : Nat} (hv : v.n = .slice (some ⟨g, 0, none⟩) N.length c) (i y : Nat) : PM B b x v l L O (N.set i y) P (w.setCell ⟨g, i, none⟩ (.int .i64 (y : Int))) := by
  have ho := h.rown
  rw [hv] at ho
  refine Hp.put (k := 4) h (a := .row 3 1 v.n N.length (lcells N)) (a' := .row 3 1 v.n (N.set i y).length (lcells (N.set i y))) rfl (by rw [Part.block, hv]; exact grown_set w ⟨g, i, none⟩ _) ?_ (fun g h => .inl h) ?_ rfl
  · show World.ownsRow _ _ _ _ _ _ _
    rw [hv, List.length_set, ← lcells_set']; exact (ho.stored i _).1
  · intro j hj
    match j with
    | 0 | 1 | 2 | 3 | 5 | 6 => rfl
    | 4 => exact absurd rfl hj
    | _ + 7 => rfl
/-- the open ones are others -/
theorem PM.newO (h : PM B b x v l L O N P w) {u : World} {O' : List Nat} {vo' : Value} (hg : w.grownBy u v.o.ownBlock) (ho : u.ownsRow B 3 1 vo' O'.length (lcells O')) (hat : At w.heap.size v.o vo') :
    PM B b x ⟨v.r, v.l, vo', v.n, v.p⟩ l L O' N P (u.setCell ⟨b, 2, none⟩ vo') := by
  have h1 : Hp u B (pmm b #[v.r, v.l, v.o, v.n, v.p] x l v.r L v.l O' vo' N v.n P v.p) := by
    refine Hp.put (k := 3) h (a := .row 3 1 v.o O.length (lcells O)) (a' := .row 3 1 vo' O'.length (lcells O')) rfl hg ho hat ?_ rfl
    intro j hj
    match j with
    | 0 | 1 | 2 | 4 | 5 | 6 => rfl
    | 3 => exact absurd rfl hj
    | _ + 7 => rfl
  refine Hp.store (k := 0) (cs := #[v.r, v.l, v.o, v.n, v.p]) (t := 117) h1 rfl ?_ rfl
  intro j hj
  match j with
  | 0 => exact absurd rfl hj
  | 1 | 2 | 3 | 4 | 5 | 6 => rfl
  | _ + 7 => rfl
/-- a pair more -/
theorem PM.newP (h : PM B b x v l L O N P w) {u : World} {P' : List (Nat × Nat × Nat)} {vp' : Value} (hg : w.grownBy u v.p.ownBlock) (ho : u.ownsRow B 98 3 vp' P'.length (pcells P')) (hat : At w.heap.size v.p vp') :
    PM B b x ⟨v.r, v.l, v.o, v.n, vp'⟩ l L O N P' (u.setCell ⟨b, 4, none⟩ vp') := by
  have h1 : Hp u B (pmm b #[v.r, v.l, v.o, v.n, v.p] x l v.r L v.l O v.o N v.n P' vp') := by
    refine Hp.put (k := 5) h (a := .row 98 3 v.p P.length (pcells P)) (a' := .row 98 3 vp' P'.length (pcells P')) rfl hg ho hat ?_ rfl
    intro j hj
    match j with
    | 0 | 1 | 2 | 3 | 4 | 6 => rfl
    | 5 => exact absurd rfl hj
    | _ + 7 => rfl
  refine Hp.store (k := 0) (cs := #[v.r, v.l, v.o, v.n, v.p]) (t := 117) h1 rfl ?_ rfl
  intro j hj
  match j with
  | 0 => exact absurd rfl hj
  | 1 | 2 | 3 | 4 | 5 | 6 => rfl
  | _ + 7 => rfl
/-- the one part more -/
theorem PM.more (h : PM B b none v l L O N P w) (cs : Array Value) (t : TypeId) (hB : B ≤ w.heap.size) : PM B b (some (.blk w.heap.size cs t)) v l L O N P (w.alloc (.cells cs t)) := by
  refine Hp.more (k := 6) h (a' := .blk w.heap.size cs t) rfl (ext_alloc w _) ⟨hB, heap_alloc_new w _⟩ (fun g hg => ?_) ?_ rfl
  · simp only [Part.block, Option.some.injEq] at hg; omega
  · intro j hj
    match j with
    | 0 | 1 | 2 | 3 | 4 | 5 => rfl
    | 6 => exact absurd rfl hj
    | _ + 7 => rfl
theorem PM.less (h : PM B b x v l L O N P w) : PM B b none v l L O N P w := by
  have hk : ∀ (k : Nat) a, pmm b #[v.r, v.l, v.o, v.n, v.p] none l v.r L v.l O v.o N v.n P v.p k = some a → pmm b #[v.r, v.l, v.o, v.n, v.p] x l v.r L v.l O v.o N v.n P v.p k = some a := by
    intro k a ha
    match k with
    | 0 | 1 | 2 | 3 | 4 | 5 => exact ha
    | 6 => simp [pmm] at ha
    | _ + 7 => simp [pmm] at ha
  exact ⟨fun k a ha => h.holds k a (hk k a ha), fun k k' a a' g h1 h2 => h.apart k k' a a' g (hk k a h1) (hk k' a' h2)⟩
theorem PM.extra {gx : Nat} {cs : Array Value} {t : TypeId} (h : PM B b (some (.blk gx cs t)) v l L O N P w) : w.heap[gx]? = some (.cells cs t (0, 0)) := (Hp.base h (k := 6) rfl).2.2
end
end Go.Proofs.YtkfhkfagmokjpaaGreatDoor
end

section
namespace Go.Proofs.YtkfhkfagmokjpaaGreatDoor
open Go.RowKit

theorem tmod3 {n : Int} (h0 : 0 ≤ n) : n.tmod 3 = n % 3 := Int.tmod_eq_emod_of_nonneg h0

set_option maxHeartbeats 4000000 in
set_option maxRecDepth 100000 in
theorem pfit_any (x y : Em.R) (hx : 0 ≤ x.n ∧ x.n ≤ 100) (hy : 0 ≤ y.n ∧ y.n ≤ 100) (w : World) :
    Calls Tryz.prog 99 #[aval x, aval y] w fun e w' => e = .returned (.bool (Em.fitP x y)) ∧ Below w.heap.size w w' := by
  obtain ⟨F, hF⟩ : ∃ F, F = Em.fitP x y := ⟨_, rfl⟩
  rw [← hF]
  obtain ⟨xc, xn, xo, xx⟩ := x
  obtain ⟨yc, yn, yo, yx⟩ := y
  unfold Em.fitP at hF
  simp only at hF hx hy
  have e1 := tmod3 hx.1
  have e2 := tmod3 hy.1
  have e3 := tmod3 (n := xn + yn) (by omega)
  have e4 : IntKind.i64.wrap (xn + yn) = xn + yn := by rw [IntKind.wrap_i64]; omega
  have hb := Lib.hid (ext_trans (ext_alloc w (.cells #[.int .u8 (xc.toNat : Int), .int .i64 xn, .bool xo, .bool xx] 96)) (ext_alloc _ (.cells #[.int .u8 (yc.toNat : Int), .int .i64 yn, .bool yo, .bool yx] 96)))
  obtain ⟨A, hA⟩ : ∃ A, (xn % 3 == 0) = A := ⟨_, rfl⟩
  obtain ⟨B, hB⟩ : ∃ B, (yn % 3 == 0) = B := ⟨_, rfl⟩
  obtain ⟨S, hS⟩ : ∃ S, ((xn + yn) % 3 != 0) = S := ⟨_, rfl⟩
  rw [hA, hB, hS] at hF
  obtain ⟨a, ha⟩ : ∃ a, xn % 3 = a := ⟨_, rfl⟩
  obtain ⟨b, hbb⟩ : ∃ b, yn % 3 = b := ⟨_, rfl⟩
  obtain ⟨s, hs⟩ : ∃ s, (xn + yn) % 3 = s := ⟨_, rfl⟩
  rw [ha] at e1 hA
  rw [hbb] at e2 hB
  rw [hs] at e3 hS
  clear ha hbb hs
  replace hF := Lib.hid hF
  unfold aval
  simp only
  by_cases hc : xc = yc
  · have t0 : ((xc.toNat : Int) != (yc.toNat : Int)) = false := by rw [hc]; simp
    have hF2 : Hid (F = ((A && B) || !(xx || yo) || S)) := Lib.hid (by rw [hF.out, hc]; simp)
    clear hF hc
    cases A <;> cases B <;> cases xx <;> cases yo
    all_goals
      go_enter Tryz.func99, Tryz.ntmps99
      go_wp2_with fail
      go_ret
      exact ⟨by rw [hF2.out]; rfl, hb.out⟩
  · have t0 : ((xc.toNat : Int) != (yc.toNat : Int)) = true := by
      have := byte_diff hc
      simp only [bne, this]; rfl
    have hF2 : Hid (F = false) := Lib.hid (by
      have : (xc == yc) = false := by simpa using hc
      rw [hF.out, this]; rfl)
    clear hF hc
    go_enter Tryz.func99, Tryz.ntmps99
    go_wp2_with fail
    go_ret
    exact ⟨by rw [hF2.out]; rfl, hb.out⟩

set_option maxHeartbeats 4000000 in
set_option maxRecDepth 100000 in
theorem psort_any (y : Em.R) (hy : 0 ≤ y.n ∧ y.n ≤ 100) (w : World) :
    Calls Tryz.prog 98 #[aval y] w fun e w' => e = .returned (.int .i64 (Em.sortN y : Nat)) ∧ Below w.heap.size w w' := by
  obtain ⟨F, hF⟩ : ∃ F, F = Em.sortN y := ⟨_, rfl⟩
  rw [← hF]
  obtain ⟨yc, yn, yo, yx⟩ := y
  unfold Em.sortN at hF
  simp only at hF hy
  have hlt := yc.toNat_lt
  have e2 := tmod3 hy.1
  have hb := Lib.hid (ext_alloc w (.cells #[.int .u8 (yc.toNat : Int), .int .i64 yn, .bool yo, .bool yx] 96))
  obtain ⟨b, hbb⟩ : ∃ b : Nat, yn % 3 = (b : Int) := ⟨(yn % 3).toNat, by omega⟩
  have hb3 : b < 3 := by omega
  rw [hbb] at e2 hF
  unfold aval
  simp only
  generalize yc.toNat = k at *
  have hF1 : Hid (yo = true → F = k * 6 + b + 3) := Lib.hid (by
    rintro rfl
    rw [hF]; simp)
  have hF0 : Hid (yo = false → F = k * 6 + b) := Lib.hid (by
    rintro rfl
    rw [hF]; simp)
  clear hF hbb
  cases yo
  · have hF2 := Lib.hid (Nat.le_antisymm_iff.1 (hF0.out rfl))
    clear hF0 hF1
    go_enter Tryz.func98, Tryz.ntmps98
    go_wp2_with fail
    go_ret
    exact ⟨ret_i64 (by have := hF2.out; omega), hb.out⟩
  · have hF2 := Lib.hid (Nat.le_antisymm_iff.1 (hF1.out rfl))
    clear hF0 hF1
    go_enter Tryz.func98, Tryz.ntmps98
    go_wp2_with fail
    go_ret
    exact ⟨ret_i64 (by have := hF2.out; omega), hb.out⟩
end Go.Proofs.YtkfhkfagmokjpaaGreatDoor
end
