/- Rows behind one another, or within one another, in memory: a row of rows, each with two rows of its own. No function of the program is spoken of here. Package inline's rows: put. Package inline's rows: say. Package emph: whether a run begins, on which side it leans; package code: how many signs stand in a row. The document's own judging of a run, at the beginning, *. The document's own judging of a run, at the beginning, _. The document's own judging of a run, further on, *. The document's own judging of a run, further on, _. The document's own judging of a run: what is none, and all of it. Package emph: held, nearest, pair, closeWith, and how Match begins. The document's own inlines: what stands between a pair's runs is put into one, pair by pair. What has been read of a text, as it lies in memory: a row of parts, a row of runs, each in a block of its own, the parts' kids in others. The document's own inlines: a text parted. Inlines, by no program: what a text is parted into has not too many kids, and says not too much: of the whole text. Inlines, by no program: a row is as rows are: no plain beside another, none empty, no link in a link. -/
import Derived.Test.YtkfhkfagmokjpaaDoorMn11
import Derived.Test.YtkfhkfagmokjpaaDoorMn10
import Derived.Test.YtkfhkfagmokjpaaDoorMn09
import Derived.Test.YtkfhkfagmokjpaaDoorMn04
import Derived.Deep.DeepCutAuto
import Derived.Test.YtkfhkfagmokjpaaDoorMn05
import Derived.Test.YtkfhkfagmokjpaaDoorMn02
namespace Go.Proofs.YtkfhkfagmokjpaaDoor
open Go.RowKit

abbrev V3 := Value × Value × List (List Value)
def v3cells (V : List V3) : List Value := V.flatMap fun x => [x.1, x.2.1]
theorem v3cells_len (V : List V3) : (v3cells V).length = V.length * 2 := by
  induction V with
  | nil => rfl
  | cons x V ih =>
    have : v3cells (x :: V) = x.1 :: x.2.1 :: v3cells V := rfl
    rw [this]; simp only [List.length_cons, ih]; omega
theorem v3cells_append (a b : List V3) : v3cells (a ++ b) = v3cells a ++ v3cells b := by simp [v3cells]
theorem v3cells_set {V : List V3} {i : Nat} (h : i < V.length) (x : V3) : v3cells (V.set i x) = v3cells (V.take i) ++ x.1 :: x.2.1 :: v3cells (V.drop (i + 1)) := by
  rw [List.set_eq_take_append_cons_drop, if_pos h, v3cells_append]; rfl
def atR (rs : List Il.Rw) (V : List V3) (f : Il.Rw → V3 → Pa) (j : Nat) : Option Pa :=
  match rs[j]?, V[j]? with
  | some R, some x => some (f R x)
  | _, _ => none
/-- rows of rows as parts -/
def rowsF (m : Ky → Option Pa) (a b c : Nat) (v : Value) (rs : List Il.Rw) (V : List V3) : Ky → Option Pa := fun j =>
  if j = (a, 0) then some (.row 49 2 v rs.length (v3cells V))
  else if j.1 = b then atR rs V (fun R x => rinl R x.1 x.2.2) j.2
  else if j.1 = c then atR rs V (fun R x => rpln R x.2.1) j.2
  else m j
structure Abc (a b c : Nat) : Prop where
  ab : b ≠ a
  ac : c ≠ a
  bc : c ≠ b
def ksAt (a b c i : Nat) : Ks := ⟨(a, 0), (b, i), (c, i)⟩
theorem ksAt_ok {a b c : Nat} (h : Abc a b c) (i : Nat) : (ksAt a b c i).ok :=
  ⟨fun e => h.ab (congrArg Prod.fst e), fun e => h.ac (congrArg Prod.fst e), fun e => h.bc (congrArg Prod.fst e)⟩
def cAt (v : Value) (n : Nat) (V : List V3) (i : Nat) : Value → Value → Pa := fun x y => .row 49 2 v n (v3cells (V.take i) ++ x :: y :: v3cells (V.drop (i + 1)))
section
variable {m : Ky → Option Pa} {a b c : Nat} {v : Value} {rs : List Il.Rw} {V : List V3} {w w' : World} {B : Nat}
theorem rowsF_set (h : Abc a b c) {i : Nat} (hi : i < rs.length) (hV : i < V.length) (R' : Il.Rw) (x y : Value) (z : List (List Value)) :
    rowm (rowsF m a b c v rs V) (ksAt a b c i) (cAt v rs.length V i) R' x y z = rowsF m a b c v (rs.set i R') (V.set i (x, y, z)) := by
  funext j
  obtain ⟨j1, j2⟩ := j
  unfold rowm uq ksAt cAt rowsF
  simp only [Prod.mk.injEq, List.length_set, v3cells_set hV]
  have hab := h.ab
  have hac := h.ac
  have hbc := h.bc
  have set1 : ∀ f, atR (rs.set i R') (V.set i (x, y, z)) f i = some (f R' (x, y, z)) := fun f => by
    unfold atR; rw [List.getElem?_set_self hi, List.getElem?_set_self hV]
  have set2 : ∀ f j, j ≠ i → atR (rs.set i R') (V.set i (x, y, z)) f j = atR rs V f j := fun f j hj => by
    unfold atR; rw [List.getElem?_set_ne (Ne.symm hj), List.getElem?_set_ne (Ne.symm hj)]
  by_cases hc : j1 = c
  · subst hc
    by_cases hj : j2 = i
    · subst hj
      simp [hac, hbc, set1]
    · simp [hac, hbc, hj, set2]
  · by_cases hb : j1 = b
    · subst hb
      by_cases hj : j2 = i
      · subst hj
        simp [hab, hc, set1]
      · simp [hab, hc, hj, set2]
    · by_cases ha : j1 = a ∧ j2 = 0
      · obtain ⟨rfl, rfl⟩ := ha
        simp [hc, hb]
      · simp [hc, hb, ha]
theorem rowsF_self (h : Abc a b c) {i : Nat} (hi : i < rs.length) (hV : i < V.length) : rowm (rowsF m a b c v rs V) (ksAt a b c i) (cAt v rs.length V i) rs[i] V[i].1 V[i].2.1 V[i].2.2 = rowsF m a b c v rs V := by
  rw [rowsF_set h hi hV, List.set_getElem_self]
  have : V.set i (V[i].1, V[i].2.1, V[i].2.2) = V := List.set_getElem_self hV
  rw [this]
/-- all rows lie -/
structure RS (w : World) (B : Nat) (m : Ky → Option Pa) (a b c : Nat) (v : Value) (rs : List Il.Rw) (V : List V3) : Prop where
  hp : Hq w B (rowsF m a b c v rs V)
  len : V.length = rs.length
  kids : ∀ (i : Nat) (h : i < rs.length) (h' : i < V.length), ICs w (Fr w B (rowsF m a b c v rs V)) rs[i].l V[i].2.2
theorem RS.cn (h : RS w B m a b c v rs V) {g cp : Nat} (hv : v = .slice (some ⟨g, 0, none⟩) rs.length cp) {i : Nat} (hi : i < rs.length) : Cn g (i * 2) (cAt v rs.length V i) := by
  subst hv
  exact cn_row 49 g rs.length cp (v3cells (V.take i)) (v3cells (V.drop (i + 1))) (by rw [v3cells_len, List.length_take, h.len]; omega)
theorem RS.look (h : RS w B m a b c v rs V) (hA : Abc a b c) {i : Nat} {R : Il.Rw} (hR : rs[i]? = some R) : ∃ (x y : Value) (z : List (List Value)), rowm (rowsF m a b c v rs V) (ksAt a b c i) (cAt v rs.length V i) R x y z = rowsF m a b c v rs V ∧ Hq w B (rowm (rowsF m a b c v rs V) (ksAt a b c i) (cAt v rs.length V i) R x y z) ∧ ICs w (Fr w B (rowm (rowsF m a b c v rs V) (ksAt a b c i) (cAt v rs.length V i) R x y z)) R.l z := by
  obtain ⟨hi, rfl⟩ := List.getElem?_eq_some_iff.1 hR
  have hV : i < V.length := by rw [h.len]; exact hi
  have e := rowsF_self (m := m) (v := v) hA hi hV
  refine ⟨V[i].1, V[i].2.1, V[i].2.2, e, ?_, ?_⟩
  · rw [e]; exact h.hp
  · rw [e]; exact h.kids i hi hV
/-- one of them has turned -/
theorem RS.turned (h : RS w B m a b c v rs V) (hA : Abc a b c) {i : Nat} {R : Il.Rw} (hR : rs[i]? = some R) {R' : Il.Rw} {x y x0 y0 : Value} {z z0 : List (List Value)} (he : rowm (rowsF m a b c v rs V) (ksAt a b c i) (cAt v rs.length V i) R x0 y0 z0 = rowsF m a b c v rs V)
    (t : Turn B (rowm (rowsF m a b c v rs V) (ksAt a b c i) (cAt v rs.length V i) R x0 y0 z0) w (rowm (rowsF m a b c v rs V) (ksAt a b c i) (cAt v rs.length V i) R' x y z) w')
    (hI : ICs w' (Fr w' B (rowm (rowsF m a b c v rs V) (ksAt a b c i) (cAt v rs.length V i) R' x y z)) R'.l z) : RS w' B m a b c v (rs.set i R') (V.set i (x, y, z)) ∧ Turn B (rowsF m a b c v rs V) w (rowsF m a b c v (rs.set i R') (V.set i (x, y, z))) w' := by
  obtain ⟨hi, rfl⟩ := List.getElem?_eq_some_iff.1 hR
  have hV : i < V.length := by rw [h.len]; exact hi
  rw [he, rowsF_set hA hi hV] at t
  rw [rowsF_set hA hi hV] at hI
  refine ⟨⟨t.hp, by rw [List.length_set, List.length_set, h.len], fun j hj hj' => ?_⟩, t⟩
  by_cases hij : i = j
  · subst hij
    rw [List.getElem_set_self, List.getElem_set_self]; exact hI
  · rw [List.getElem_set_ne hij, List.getElem_set_ne hij]
    exact t.kids (h.kids j (by rw [List.length_set] at hj; exact hj) (by rw [List.length_set] at hj'; exact hj'))
theorem RS.ext (h : RS w B m a b c v rs V) (hB : B ≤ w.heap.size) (hb : Below w.heap.size w w') : RS w' B m a b c v rs V :=
  ⟨(h.hp.call hB hb).hp, h.len, fun i h1 h2 => (h.hp.call hB hb).kids (h.kids i h1 h2)⟩
/-- a turn of memory that leaves the rows as they are -/
theorem RS.along (h : RS w B m a b c v rs V) {m' : Ky → Option Pa} (t : Turn B (rowsF m a b c v rs V) w (rowsF m' a b c v rs V) w') : RS w' B m' a b c v rs V :=
  ⟨t.hp, h.len, fun i h1 h2 => t.kids (h.kids i h1 h2)⟩
theorem rowsF_arr (m : Ky → Option Pa) (a b c : Nat) (v : Value) (rs : List Il.Rw) (V : List V3) : rowsF m a b c v rs V (a, 0) = some (.row 49 2 v rs.length (v3cells V)) := by unfold rowsF; rw [if_pos rfl]
theorem RS.arr (h : RS w B m a b c v rs V) : w.ownsRow B 49 2 v rs.length (v3cells V) := h.hp.holds _ _ (rowsF_arr m a b c v rs V)
theorem RS.slice (h : RS w B m a b c v rs V) (hn : 0 < rs.length) : ∃ g cp, v = .slice (some ⟨g, 0, none⟩) rs.length cp ∧ rs.length ≤ cp ∧ B ≤ g ∧ g < w.heap.size := hq_some h.arr hn
/-- the array of rows in another block, with the same rows and some that are empty -/
theorem RS.grow (h : RS w B m a b c v rs V) (hB : B ≤ w.heap.size) {v' : Value} {j : Nat} (hg : w.grownBy w' v.ownBlock) (ho : w'.ownsRow B 49 2 v' (rs.length + j) (v3cells V ++ v3cells (List.replicate j (.slice none 0 0, .slice none 0 0, [])))) (hat : At w.heap.size v v') :
    RS w' B m a b c v' (rs ++ List.replicate j Il.Rw.nil) (V ++ List.replicate j (.slice none 0 0, .slice none 0 0, [])) ∧ Turn B (rowsF m a b c v rs V) w (rowsF m a b c v' (rs ++ List.replicate j Il.Rw.nil) (V ++ List.replicate j (.slice none 0 0, .slice none 0 0, []))) w' := by
  have t1 := h.hp.tput (k := (a, 0)) (.row 49 2 v' (rs ++ List.replicate j Il.Rw.nil).length (v3cells (V ++ List.replicate j (.slice none 0 0, .slice none 0 0, [])))) (rowsF_arr m a b c v rs V) hg (by
    show World.ownsRow _ _ _ _ _ _ _
    rw [List.length_append, List.length_replicate, v3cells_append]; exact ho) hat hB
  have old : ∀ (f : Il.Rw → V3 → Pa) (i : Nat) (x : Pa), (∀ R, R = Il.Rw.nil → (f R (.slice none 0 0, .slice none 0 0, [])).block = none ∧ (f R (.slice none 0 0, .slice none 0 0, [])).holds w' B) → atR (rs ++ List.replicate j Il.Rw.nil) (V ++ List.replicate j (.slice none 0 0, .slice none 0 0, [])) f i = some x → atR rs V f i = some x ∨ (x.block = none ∧ x.holds w' B) := by
    intro f i x hf he
    unfold atR at he ⊢
    rcases Nat.lt_or_ge i rs.length with hi | hi
    · rw [List.getElem?_append_left hi, List.getElem?_append_left (by rw [h.len]; exact hi)] at he
      exact .inl he
    · rw [List.getElem?_append_right hi, List.getElem?_append_right (by rw [h.len]; exact hi), h.len] at he
      rw [List.getElem?_replicate, List.getElem?_replicate] at he
      by_cases hj : i - rs.length < j
      · rw [if_pos hj, if_pos hj] at he
        injection he with he
        subst he
        exact .inr (hf _ rfl)
      · rw [if_neg hj, if_neg hj] at he; cases he
  have t2 : Turn B (uq (rowsF m a b c v rs V) (a, 0) (.row 49 2 v' (rs ++ List.replicate j Il.Rw.nil).length (v3cells (V ++ List.replicate j (.slice none 0 0, .slice none 0 0, []))))) w' (rowsF m a b c v' (rs ++ List.replicate j Il.Rw.nil) (V ++ List.replicate j (.slice none 0 0, .slice none 0 0, []))) w' := by
    refine t1.hp.tsub id (fun q x hx => ?_) (fun q q' x x' _ _ _ e => e)
    obtain ⟨q1, q2⟩ := q
    unfold rowsF at hx
    by_cases ha : (q1, q2) = (a, 0)
    · rw [if_pos ha] at hx
      rw [id, ha, uq_same]; exact .inl hx
    · rw [if_neg ha] at hx
      rw [id, uq_other _ _ ha]
      unfold rowsF
      rw [if_neg ha]
      simp only at hx ⊢
      by_cases hb : q1 = b
      · rw [if_pos hb] at hx ⊢
        exact old _ _ _ (fun R hR => by subst hR; exact ⟨rfl, World.ownsRow_nil _ _ _ _⟩) hx
      · rw [if_neg hb] at hx ⊢
        by_cases hc : q1 = c
        · rw [if_pos hc] at hx ⊢
          exact old _ _ _ (fun R hR => by subst hR; exact ⟨rfl, World.ownsRow_nil _ _ _ _⟩) hx
        · rw [if_neg hc] at hx ⊢
          exact .inl hx
  have t := t1.trans t2
  refine ⟨⟨t.hp, by simp [h.len], fun i hi hi' => ?_⟩, t⟩
  rcases Nat.lt_or_ge i rs.length with hl | hl
  · rw [List.getElem_append_left hl, List.getElem_append_left (by rw [h.len]; exact hl)]
    exact t.kids (h.kids i hl _)
  · rw [List.getElem_append_right hl, List.getElem_append_right (by rw [h.len]; exact hl), List.getElem_replicate, List.getElem_replicate]
    exact ICs_nil
/-- the last row is taken off: its inlines are no part any more -/
theorem RS.pop (h : RS w B m a b c v rs V) (hA : Abc a b c) (hB : B ≤ w.heap.size) {n g cp : Nat} (hn : rs.length = n + 1) (hv : v = .slice (some ⟨g, 0, none⟩) (n + 1) cp) :
    RS w B m a b c (.slice (some ⟨g, 0, none⟩) n cp) (rs.take n) (V.take n) ∧ Turn B (rowsF m a b c v rs V) w (rowsF m a b c (.slice (some ⟨g, 0, none⟩) n cp) (rs.take n) (V.take n)) w ∧
      ∀ (hi : n < rs.length) (hi' : n < V.length) (A : Option Addr) (cA : Nat), V[n].1 = .slice A rs[n].l.length cA → RowI w (Fr w B (rowsF m a b c (.slice (some ⟨g, 0, none⟩) n cp) (rs.take n) (V.take n))) 4 A rs[n].l.length V[n].2.2.flatten ∧ ICs w (Fr w B (rowsF m a b c (.slice (some ⟨g, 0, none⟩) n cp) (rs.take n) (V.take n))) rs[n].l V[n].2.2 := by
  subst hv
  have harr := h.arr
  have hVl := h.len
  have htl : (rs.take n).length = n := by rw [List.length_take]; omega
  have ho : w.ownsRow B 49 2 (.slice (some ⟨g, 0, none⟩) n cp) (rs.take n).length (v3cells (V.take n)) := by
    rw [htl]
    refine ⟨by rw [v3cells_len, List.length_take]; omega, ?_⟩
    rcases harr.2 with ⟨e, _⟩ | ⟨g', cap, cur, e, h1, h2, h3, h4, h5, h6⟩
    · simp at e
    · injection e with e1 e2 e3
      injection e1 with e1
      injection e1 with e1
      subst e1 e3
      refine .inr ⟨g, cp, cur, rfl, h1, h2, by omega, h4, h5, ?_⟩
      have e4 : v3cells V = v3cells (V.take n) ++ v3cells (V.drop n) := by rw [← v3cells_append, List.take_append_drop]
      have e5 : (v3cells (V.take n)).length = n * 2 := by rw [v3cells_len, List.length_take]; omega
      have : (cur.toList.take (rs.length * 2)).take (n * 2) = (v3cells V).take (n * 2) := by rw [h6]
      rw [List.take_take, show min (n * 2) (rs.length * 2) = n * 2 by omega, e4, List.take_left' e5] at this
      exact this
  have t1 := h.hp.tput (k := (a, 0)) (.row 49 2 (.slice (some ⟨g, 0, none⟩) n cp) (rs.take n).length (v3cells (V.take n))) (rowsF_arr m a b c _ rs V) (World.grownBy.refl w _) ho (fun g' hg' => .inl hg') hB
  have old : ∀ (f : Il.Rw → V3 → Pa) (i : Nat) (x : Pa), atR (rs.take n) (V.take n) f i = some x → atR rs V f i = some x ∧ i < n := by
    intro f i x he
    unfold atR at he ⊢
    rw [List.getElem?_take, List.getElem?_take] at he
    by_cases hi : i < n
    · rw [if_pos hi, if_pos hi] at he; exact ⟨he, hi⟩
    · rw [if_neg hi, if_neg hi] at he; cases he
  have hsub : ∀ q x, rowsF m a b c (.slice (some ⟨g, 0, none⟩) n cp) (rs.take n) (V.take n) q = some x → uq (rowsF m a b c (.slice (some ⟨g, 0, none⟩) (n + 1) cp) rs V) (a, 0) (.row 49 2 (.slice (some ⟨g, 0, none⟩) n cp) (rs.take n).length (v3cells (V.take n))) q = some x ∧ q ≠ (b, n) := by
    intro q x hx
    obtain ⟨q1, q2⟩ := q
    unfold rowsF at hx
    by_cases ha : (q1, q2) = (a, 0)
    · rw [if_pos ha] at hx
      refine ⟨by rw [ha, uq_same]; exact hx, fun e => ?_⟩
      rw [e] at ha
      exact hA.ab (congrArg Prod.fst ha)
    · rw [if_neg ha] at hx
      rw [uq_other _ _ ha]
      unfold rowsF
      rw [if_neg ha]
      simp only at hx ⊢
      by_cases hb : q1 = b
      · rw [if_pos hb] at hx ⊢
        obtain ⟨h1, h2⟩ := old _ _ _ hx
        exact ⟨h1, fun e => by have := congrArg Prod.snd e; simp only at this; omega⟩
      · rw [if_neg hb] at hx ⊢
        refine ⟨?_, fun e => hb (congrArg Prod.fst e)⟩
        by_cases hc : q1 = c
        · rw [if_pos hc] at hx ⊢
          exact (old _ _ _ hx).1
        · rw [if_neg hc] at hx ⊢
          exact hx
  have t2 : Turn B _ w (rowsF m a b c (.slice (some ⟨g, 0, none⟩) n cp) (rs.take n) (V.take n)) w := t1.hp.tsub id (fun q x hx => .inl (hsub q x hx).1) (fun q q' x x' _ _ _ e => e)
  have t := t1.trans t2
  refine ⟨⟨t.hp, by rw [htl, List.length_take]; omega, fun i hi hi' => ?_⟩, t, fun hi hi' A cA hVA => ⟨?_, t.kids (h.kids n hi hi')⟩⟩
  · rw [List.getElem_take, List.getElem_take]
    rw [htl] at hi
    exact t.kids (h.kids i (by omega) (by omega))
  · have hb : rowsF m a b c (.slice (some ⟨g, 0, none⟩) (n + 1) cp) rs V (b, n) = some (rinl rs[n] V[n].1 V[n].2.2) := by
      unfold rowsF
      rw [if_neg (fun e => hA.ab (congrArg Prod.fst e)), if_pos rfl]
      unfold atR
      rw [List.getElem?_eq_getElem hi, List.getElem?_eq_getElem hi']
    have hown : w.ownsRow B 30 4 V[n].1 rs[n].l.length V[n].2.2.flatten := h.hp.holds _ _ hb
    have hbl := hown
    rw [hVA] at hbl
    have hr := own_rowI hbl
    refine ⟨hr.1, fun hp => ?_⟩
    obtain ⟨b0, o, h1, h2, h3⟩ := hr.2 hp
    refine ⟨b0, o, h1, ⟨h2.1, h2.2, fun q x hx e => ?_⟩, h3⟩
    obtain ⟨h4, h5⟩ := hsub q x hx
    have hb1 : uq (rowsF m a b c (.slice (some ⟨g, 0, none⟩) (n + 1) cp) rs V) (a, 0) (.row 49 2 (.slice (some ⟨g, 0, none⟩) n cp) (rs.take n).length (v3cells (V.take n))) (b, n) = some (rinl rs[n] V[n].1 V[n].2.2) := by
      rw [uq_other _ _ (fun e => hA.ab (congrArg Prod.fst e))]; exact hb
    refine h5 (t1.hp.apart _ _ _ _ b0 h4 hb1 e ?_)
    show V[n].1.ownBlock = some b0
    rw [hVA, h1]; rfl
end
end Go.Proofs.YtkfhkfagmokjpaaDoor

namespace Go.Proofs.YtkfhkfagmokjpaaDoor
open Go.RowKit
attribute [local go_sem] canOp readsAs readUpon

theorem Hq.drewT {K : Type} {w : World} {B : Nat} {m : K → Option Pa} (h : Hq w B m) : Turn B m w m w.drew :=
  ⟨⟨fun k a ha => by have := h.holds k a ha; cases a <;> exact this, h.apart⟩, ⟨rfl, rfl, rfl, Nat.le_refl _, fun _ _ => rfl⟩, fun _ hb => ⟨rfl, hb⟩⟩
theorem row_blk {w : World} {g size n : Nat} {C : Array Value} {T : TypeId} (h : w.heap[g]? = some (.cells C T)) (hn : C.size = n * size) : Row w w.heap.size size (some ⟨g, 0, none⟩) n C.toList := by
  refine ⟨by simpa using hn, fun _ => ⟨g, 0, rfl, (Array.getElem?_eq_some_iff.1 h).1, fun j u hj => ?_⟩⟩
  rw [blk_cell h]
  simpa using hj
section
variable {m : Ky → Option Pa} {k : Ks} {C : Value → Value → Pa} {R : Il.Rw} {vi vp : Value} {css : List (List Value)} {w : World} {B g o : Nat}
/-- a row and one inline more -/
theorem rowm_more (hk : k.ok) (hC : Cn g o C) (h : Hq w B (rowm m k C ⟨R.full, []⟩ vi vp css)) (hI : ICs w (Fr w B (rowm m k C ⟨R.full, []⟩ vi vp css)) R.full css) (hB : B ≤ w.heap.size) {x : Il.In} {xc : List Value} (hx : IC w (Fr w B (rowm m k C ⟨R.full, []⟩ vi vp css)) x xc)
    {w' : World} {v' : Value} (ho : w'.ownsRow B 30 4 v' (R.full.length + 1) (css.flatten ++ xc)) (hg : w.grownBy w' vi.ownBlock) (hat : At w.heap.size vi v') :
    Turn B (rowm m k C ⟨R.full, []⟩ vi vp css) w (rowm m k C (R.put x) v' vp (css ++ [xc])) (w'.setCell ⟨g, o, none⟩ v') ∧ ICs (w'.setCell ⟨g, o, none⟩ v') (Fr (w'.setCell ⟨g, o, none⟩ v') B (rowm m k C (R.put x) v' vp (css ++ [xc]))) (R.put x).l (css ++ [xc]) := by
  have t := rowm_inl hk hC h hB (R' := R.put x) (css' := css ++ [xc]) rfl hg (by
    have e : (R.put x).l.length = R.full.length + 1 := by simp [Il.Rw.put]
    rw [e]; simpa using ho) hat
  exact ⟨t, ICs_snoc (t.kids hI) (t.kid hx)⟩

set_option maxHeartbeats 8000000 in
set_option maxRecDepth 100000 in
theorem pput_any (hk : k.ok) (hC : Cn g o C) (h : Hq w B (rowm m k C R vi vp css)) (hI : ICs w (Fr w B (rowm m k C R vi vp css)) R.l css) (hB : B ≤ w.heap.size) (hl : R.p.length ≤ 10000000000) (hll : R.l.length ≤ 10000000000)
    (kd : Nat) (t d : List UInt8) (ks : List Il.In) (AK : Option Addr) (cK : Nat) (hx : IC w (Fr w B (rowm m k C R vi vp css)) (.mk kd t d ks) [.int .i64 (kd : Int), .string (bs t), .string (bs d), .slice AK ks.length cK]) :
    Calls Tryd.prog 23 #[.pointer (some ⟨g, o, none⟩), .agg #[.int .i64 (kd : Int), .string (bs t), .string (bs d), .slice AK ks.length cK]] w fun e w' => e = .returned (.tuple #[]) ∧ ∃ vi' vp' css', Turn B (rowm m k C R vi vp css) w (rowm m k C (R.put (.mk kd t d ks)) vi' vp' css') w' ∧ ICs w' (Fr w' B (rowm m k C (R.put (.mk kd t d ks)) vi' vp' css')) (R.put (.mk kd t d ks)).l css' := by
  have hfl := R.wt_full.1
  have t0 := h.call (w' := w.alloc (.cells #[.int .i64 (kd : Int), .string (bs t), .string (bs d), .slice AK ks.length cK] 30)) hB (ext_alloc w _)
  have hf0 := Hq.new (w' := w.alloc (.cells #[.int .i64 (kd : Int), .string (bs t), .string (bs d), .slice AK ks.length cK] 30)) h hB (b := w.heap.size) (Nat.le_refl _) (by simp)
  have hb0 : (w.alloc (.cells #[.int .i64 (kd : Int), .string (bs t), .string (bs d), .slice AK ks.length cK] 30)).heap[w.heap.size]? = some (.cells #[.int .i64 (kd : Int), .string (bs t), .string (bs d), .slice AK ks.length cK] 30) := heap_alloc_new w _
  have td := t0.trans t0.hp.drewT
  have hID := td.kids hI
  have hxD := td.kid hx
  obtain ⟨wd, hwd⟩ : ∃ wd, wd = (w.alloc (.cells #[.int .i64 (kd : Int), .string (bs t), .string (bs d), .slice AK ks.length cK] 30)).drew := ⟨_, rfl⟩
  have hSd : (fun u : World => u.heap[w.heap.size]? = some (.cells #[.int .i64 (kd : Int), .string (bs t), .string (bs d), .slice AK ks.length cK] 30)) wd := by rw [hwd]; exact hb0
  have hfd : Fr wd B (rowm m k C R vi vp css) w.heap.size := by rw [hwd]; exact hf0
  have hBd : B ≤ wd.heap.size := by rw [hwd]; simp; omega
  rw [← hwd] at td hID hxD
  clear t0 hf0 hb0 h hI hx
  go_enter Tryd.func23, Tryd.ntmps23
  go_upto_region 1 with fail
  refine wp_region_tree (.rd 0 (.rd 1 (.rd 3 (.fk 2 (.mk 4 (.mk 5 (.rd 6 (.rd 7 (.mk 8 .fin))))) 4 (.mk 2 (.mk 5 (.rd 6 (.rd 7 (.mk 8 .fin))))))))) (fun u : World => u.heap[w.heap.size]? = some (.cells #[.int .i64 (kd : Int), .string (bs t), .string (bs d), .slice AK ks.length cK] 30)) (hwd ▸ hSd) (by kernel_rfl) (by kernel_rfl) (by kernel_rfl) (fun _ _ d _ _ h => by cases d <;> exact h) ?_
  rw [← hwd]
  clear hwd
  (first | refine wpT_move rfl ?_ | (refine wpT_rd rfl ?_; intro K hK; go_simp; refine hK _ _ _ ?_; clear hK K))
  (first | refine wpT_move rfl ?_ | (refine wpT_rd rfl ?_; intro K hK; go_simp; refine hK _ _ _ ?_; clear hK K))
  refine wpT_read (.agg #[.int .i64 (kd : Int), .string (bs t), .string (bs d), .slice AK ks.length cK]) rfl rfl hSd (fun u hu => by
    have h0 := blk_cell (j := 0) hu
    have h1 := blk_cell (j := 1) hu
    have h2 := blk_cell (j := 2) hu
    have h3 := blk_cell (j := 3) hu
    go_simp) ?_
  refine wpT_fk ?wa ?wb
  case' wa =>
    refine wpT_mk rfl ?_
    intro K hK
    go_simp
    refine (pall_any hk hC td.hp hID hBd (by omega) (by omega)).mono ?_
    rintro e w1 ⟨vi1, rfl, vp1, css1, t1, hI1⟩
    have hx1 := t1.kid hxD
    obtain ⟨hblk0, hfr1⟩ := t1.fre _ hfd
    have hS1 : (fun u : World => u.heap[w.heap.size]? = some (.cells #[.int .i64 (kd : Int), .string (bs t), .string (bs d), .slice AK ks.length cK] 30)) w1 := hblk0.trans hSd
    refine ⟨_, hS1, fun _ h => h, hK _ _ _ ?_⟩
    clear hK K
    refine wpT_mk rfl ?_
    intro K hK
    go_simp
    have hBw1 := Nat.le_trans hBd t1.bel.size
    have ta := t1.hp.call (w' := w1.alloc (.cells #[.int .i64 (kd : Int), .string (bs t), .string (bs d), .slice AK ks.length cK] 30)) hBw1 (ext_alloc w1 _)
    have hblk1 : (w1.alloc (.cells #[.int .i64 (kd : Int), .string (bs t), .string (bs d), .slice AK ks.length cK] 30)).heap[w1.heap.size]? = some (.cells #[.int .i64 (kd : Int), .string (bs t), .string (bs d), .slice AK ks.length cK] 30) := heap_alloc_new w1 _
    obtain ⟨hblk2, hfr2⟩ := ta.fre _ hfr1
    replace hS1 : (fun u : World => u.heap[w.heap.size]? = some (.cells #[.int .i64 (kd : Int), .string (bs t), .string (bs d), .slice AK ks.length cK] 30)) (w1.alloc (.cells #[.int .i64 (kd : Int), .string (bs t), .string (bs d), .slice AK ks.length cK] 30)) := hblk2.trans hS1
    replace hI1 := ta.kids hI1
    replace hx1 := ta.kid hx1
    replace t1 := t1.trans ta
    replace hfr1 := hfr2
    refine ⟨_, hS1, fun _ h => h, hK _ _ _ ?_⟩
    clear hK K ta hblk2 hblk0
    obtain ⟨bx, hbx⟩ : ∃ bx, bx = w1.heap.size := ⟨_, rfl⟩
    rw [← hbx] at hblk1 ⊢
    clear hbx
    generalize w1.alloc (.cells #[.int .i64 (kd : Int), .string (bs t), .string (bs d), .slice AK ks.length cK] 30) = w2 at *
    obtain ⟨c0, c1, cf, hBg, hgz, oi, op, nei, nep⟩ := rowm_all hk hC t1.hp
    have hBs := Nat.le_trans hBd t1.bel.size
    have oi : w2.ownsRow B 30 4 vi1 R.full.length css1.flatten := oi
    obtain ⟨A2, c2, rfl, hc4⟩ := own_shape oi
    refine wpT_app rfl rfl (.tmp 6) (.tmp 8) rfl inlEI (v := .slice A2 R.full.length c2) rfl oi rfl (row_blk hblk1 (n := 1) rfl) (by intro u hu; simp at hu; rcases hu with rfl | rfl | rfl | rfl <;> rfl) (by omega) (by omega) hBs ?_
    intro v' w' ho hg hb hat
    obtain ⟨g', c', rfl, hc', hBg', hgz'⟩ := hq_some ho (by omega)
    obtain ⟨d0, d1, df, dz⟩ := rowm_stay hk hC t1.hp hg.out nei
    have hne0 : (Value.slice A2 R.full.length c2).ownBlock ≠ some w.heap.size := hfr1.2.2 _ _ (rowm_i hk)
    have hS3 : (fun u : World => u.heap[w.heap.size]? = some (.cells #[.int .i64 (kd : Int), .string (bs t), .string (bs d), .slice AK ks.length cK] 30)) w' := (hg.out.block _ hfr1.2.1 (fun e => hne0 e.symm)).trans hS1
    refine ⟨_, hS3, fun _ h => h, ?_⟩
    obtain ⟨t3, hI3⟩ := rowm_more hk hC t1.hp hI1 hBs hx1 ho hg.out hat.out
    have t4 := Lib.hid (td.trans (t1.trans t3))
    have hI4 := Lib.hid hI3
    have hgn : g ≠ w.heap.size := fun e => hfr1.2.2 _ _ (rowm_g hk) (by rw [hC.block, e])
    have hS4 : (fun u : World => u.heap[w.heap.size]? = some (.cells #[.int .i64 (kd : Int), .string (bs t), .string (bs d), .slice AK ks.length cK] 30)) (w'.setCell ⟨g, o, none⟩ (.slice (some ⟨g', 0, none⟩) (R.full.length + 1) c')) := (Below.heap_setCell _ _ _ _ (fun e => hgn e.symm)).trans hS3
    clear t3 hI3 ho hg hb hat d1 t1 hI1 hx1 oi op nei nep c0 c1 cf
    (first | refine wpT_move rfl ?_ | (refine wpT_rd rfl ?_; intro K hK; go_simp; refine hK _ _ _ ?_; clear hK K))
    (first | refine wpT_move rfl ?_ | (refine wpT_rd rfl ?_; intro K hK; go_simp; refine hK _ _ _ ?_; clear hK K))
    refine wpT_mk rfl ?_
    intro K hK
    go_simp
    refine ⟨_, hS4, fun _ h => h, hK _ _ _ ?_⟩
    clear hK K
    refine wpT_fin ?_
    go_wp2_with fail
    go_returns
    exact ⟨rfl, _, _, _, t4.out, hI4.out⟩
  case' wb =>
    refine wpT_mk rfl ?_
    intro K hK
    go_simp
    have ta := td.hp.call (w' := wd.alloc (.cells #[.int .i64 (kd : Int), .string (bs t), .string (bs d), .slice AK ks.length cK] 30)) hBd (ext_alloc wd _)
    have hblk1 : (wd.alloc (.cells #[.int .i64 (kd : Int), .string (bs t), .string (bs d), .slice AK ks.length cK] 30)).heap[wd.heap.size]? = some (.cells #[.int .i64 (kd : Int), .string (bs t), .string (bs d), .slice AK ks.length cK] 30) := heap_alloc_new wd _
    have hfrb := Hq.new (w' := wd.alloc (.cells #[.int .i64 (kd : Int), .string (bs t), .string (bs d), .slice AK ks.length cK] 30)) td.hp hBd (b := wd.heap.size) (Nat.le_refl _) (by simp)
    obtain ⟨hblk2, hfr2⟩ := ta.fre _ hfd
    have hS1 : (fun u : World => u.heap[w.heap.size]? = some (.cells #[.int .i64 (kd : Int), .string (bs t), .string (bs d), .slice AK ks.length cK] 30)) (wd.alloc (.cells #[.int .i64 (kd : Int), .string (bs t), .string (bs d), .slice AK ks.length cK] 30)) := hblk2.trans hSd
    have hI0 := ta.kids hID
    have hx0 := ta.kid hxD
    refine ⟨_, hS1, fun _ h => h, hK _ _ _ ?_⟩
    clear hK K hblk2
    have hBb : B ≤ (wd.alloc (.cells #[.int .i64 (kd : Int), .string (bs t), .string (bs d), .slice AK ks.length cK] 30)).heap.size := by simp; omega
    obtain ⟨bx, hbx⟩ : ∃ bx, bx = wd.heap.size := ⟨_, rfl⟩
    rw [← hbx] at hblk1 hfrb ⊢
    clear hbx
    generalize wd.alloc (.cells #[.int .i64 (kd : Int), .string (bs t), .string (bs d), .slice AK ks.length cK] 30) = w1 at *
    refine wpT_mk rfl ?_
    intro K hK
    go_simp
    refine (pall_any hk hC ta.hp hI0 hBb (by omega) (by omega)).mono ?_
    rintro e w2 ⟨vi1, rfl, vp1, css1, t1, hI1⟩
    have hx1 := t1.kid hx0
    obtain ⟨hblk0, hfr1⟩ := t1.fre _ hfr2
    replace hblk1 := (t1.fre _ hfrb).1.trans hblk1
    replace hS1 : (fun u : World => u.heap[w.heap.size]? = some (.cells #[.int .i64 (kd : Int), .string (bs t), .string (bs d), .slice AK ks.length cK] 30)) w2 := hblk0.trans hS1
    replace t1 := ta.trans t1
    refine ⟨_, hS1, fun _ h => h, hK _ _ _ ?_⟩
    clear hK K hI0 hx0 hfrb hfr2 hblk0
    obtain ⟨c0, c1, cf, hBg, hgz, oi, op, nei, nep⟩ := rowm_all hk hC t1.hp
    have hBs := Nat.le_trans hBd t1.bel.size
    have oi : w2.ownsRow B 30 4 vi1 R.full.length css1.flatten := oi
    obtain ⟨A2, c2, rfl, hc4⟩ := own_shape oi
    refine wpT_app rfl rfl (.tmp 6) (.tmp 8) rfl inlEI (v := .slice A2 R.full.length c2) rfl oi rfl (row_blk hblk1 (n := 1) rfl) (by intro u hu; simp at hu; rcases hu with rfl | rfl | rfl | rfl <;> rfl) (by omega) (by omega) hBs ?_
    intro v' w' ho hg hb hat
    obtain ⟨g', c', rfl, hc', hBg', hgz'⟩ := hq_some ho (by omega)
    obtain ⟨d0, d1, df, dz⟩ := rowm_stay hk hC t1.hp hg.out nei
    have hne0 : (Value.slice A2 R.full.length c2).ownBlock ≠ some w.heap.size := hfr1.2.2 _ _ (rowm_i hk)
    have hS3 : (fun u : World => u.heap[w.heap.size]? = some (.cells #[.int .i64 (kd : Int), .string (bs t), .string (bs d), .slice AK ks.length cK] 30)) w' := (hg.out.block _ hfr1.2.1 (fun e => hne0 e.symm)).trans hS1
    refine ⟨_, hS3, fun _ h => h, ?_⟩
    obtain ⟨t3, hI3⟩ := rowm_more hk hC t1.hp hI1 hBs hx1 ho hg.out hat.out
    have t4 := Lib.hid (td.trans (t1.trans t3))
    have hI4 := Lib.hid hI3
    have hgn : g ≠ w.heap.size := fun e => hfr1.2.2 _ _ (rowm_g hk) (by rw [hC.block, e])
    have hS4 : (fun u : World => u.heap[w.heap.size]? = some (.cells #[.int .i64 (kd : Int), .string (bs t), .string (bs d), .slice AK ks.length cK] 30)) (w'.setCell ⟨g, o, none⟩ (.slice (some ⟨g', 0, none⟩) (R.full.length + 1) c')) := (Below.heap_setCell _ _ _ _ (fun e => hgn e.symm)).trans hS3
    clear t3 hI3 ho hg hb hat d1 t1 hI1 hx1 oi op nei nep c0 c1 cf
    (first | refine wpT_move rfl ?_ | (refine wpT_rd rfl ?_; intro K hK; go_simp; refine hK _ _ _ ?_; clear hK K))
    (first | refine wpT_move rfl ?_ | (refine wpT_rd rfl ?_; intro K hK; go_simp; refine hK _ _ _ ?_; clear hK K))
    refine wpT_mk rfl ?_
    intro K hK
    go_simp
    refine ⟨_, hS4, fun _ h => h, hK _ _ _ ?_⟩
    clear hK K
    refine wpT_fin ?_
    go_wp2_with fail
    go_returns
    exact ⟨rfl, _, _, _, t4.out, hI4.out⟩
end
end Go.Proofs.YtkfhkfagmokjpaaDoor

namespace Go.Proofs.YtkfhkfagmokjpaaDoor
open Go.RowKit

/-- a block of the call's own, newer than all that was there, changes -/
theorem Turn.aside {K K' : Type} {B : Nat} {m : K → Option Pa} {m' : K' → Option Pa} {w wr wr2 : World} {k0 : Nat} (t : Turn B m w m' wr) (hk0 : w.heap.size ≤ k0) (hB : B ≤ w.heap.size) (hfr : Fr wr B m' k0) (hg : wr.grownBy wr2 (some k0)) : Turn B m w m' wr2 ∧ Fr wr2 B m' k0 := by
  refine ⟨⟨⟨fun k a ha => Pa.kept (t.hp.holds k a ha) hg (.inr (hfr.2.2 k a ha)), t.hp.apart⟩, ?_, fun b hb => ?_⟩, hfr.1, Nat.lt_of_lt_of_le hfr.2.1 hg.size, hfr.2.2⟩
  · exact ⟨hg.os.trans t.bel.os, hg.tape.trans t.bel.tape, hg.output.trans t.bel.output, Nat.le_trans t.bel.size hg.size, fun k hk => (hg.block k (by have := t.bel.size; omega) (fun e => by injection e with e; omega)).trans (t.bel.block k hk)⟩
  · obtain ⟨h1, h2⟩ := t.fre b hb
    exact ⟨(hg.block b h2.2.1 (fun e => by have := hb.2.1; injection e with e; omega)).trans h1, h2.1, Nat.lt_of_lt_of_le h2.2.1 hg.size, h2.2.2⟩
theorem grown_iterAt (w : World) (k : Nat) (s : ByteArray) (pos : Nat) : w.grownBy (w.iterAt k s pos) (some k) :=
  ⟨rfl, rfl, rfl, by rw [Lib.iterAt_size]; exact Nat.le_refl _, fun j _ hne => Lib.iterAt_other w k j s pos (fun e => hne (by rw [e]))⟩

section
variable {m : Ky → Option Pa} {k : Ks} {C : Value → Value → Pa} {R : Il.Rw} {vi vp : Value} {css : List (List Value)} {w : World} {B g o : Nat}
set_option maxHeartbeats 4000000 in
set_option maxRecDepth 100000 in
theorem psay_any (hk : k.ok) (hC : Cn g o C) (h : Hq w B (rowm m k C R vi vp css)) (hB : B ≤ w.heap.size) (l : List UInt8) (hl : R.p.length + 4 * l.length ≤ 10000000000) :
    Calls Tryd.prog 35 #[.pointer (some ⟨g, o, none⟩), .string (bs l)] w fun e w' => e = .returned (.tuple #[]) ∧ ∃ vp', Turn B (rowm m k C R vi vp css) w (rowm m k C (R.say (Ru.enc (Ru.runes l))) vi vp' css) w' := by
  have hstep := Lib.hid (fun (D : List Nat) (vp' : Value) (wz : World) (hz : Hq wz B (rowm m k C (R.say (Ru.enc D)) vi vp' css)) (x : Nat) (hx : Ru.vr x) (hBz : B ≤ wz.heap.size) (hD : (Ru.enc D).length ≤ 4 * l.length) =>
    psayRune_any hk hC hz hBz x hx (by show (R.p ++ Ru.enc D).length ≤ _; rw [List.length_append]; omega))
  have h0 := Lib.hid ((h.call (w' := w.alloc (.stringIter (bs l) 0)) hB (ext_alloc w _)))
  have hf0 := Lib.hid (Hq.new (w' := w.alloc (.stringIter (bs l) 0)) h hB (b := w.heap.size) (Nat.le_refl _) (by simp))
  have hR0 : R.say (Ru.enc []) = R := by unfold Il.Rw.say; rw [Ru.enc_nil, List.append_nil]
  clear h
  go_enter Tryd.func35, Tryd.ntmps35
  go_wp2_with fail
  go_loopw [] (fun wr => ∃ (pos : Nat) (D : List Nat) (vp' : Value), Hid (Turn B (rowm m k C R vi vp css) w (rowm m k C (R.say (Ru.enc D)) vi vp' css) wr) ∧ Hid (Fr wr B (rowm m k C (R.say (Ru.enc D)) vi vp' css) w.heap.size) ∧ Hid (wr.heap[w.heap.size]? = some (.stringIter (bs l) pos)) ∧ Hid (D ++ Ru.runes (l.drop pos) = Ru.runes l))
    (fun wr => l.length - wr.iterPos w.heap.size)
  case atStart => exact ⟨0, [], vp, by rw [hR0]; exact h0, by rw [hR0]; exact hf0, Lib.hid (iter_new _ _ _ rfl), Lib.hid (by simp)⟩
  case round =>
    obtain ⟨pos, D, vp', hT, hF, hit, hD⟩ := hrel
    have hdl := runes_part hD.out
    have hbz := hT.out.bel.size
    have hlt : w.heap.size < wr.heap.size := (Array.getElem?_eq_some_iff.1 hit.out).1
    by_cases hp : pos < l.length
    · obtain ⟨x, kk, hkk, hv, hd, hD2⟩ := runes_next hp hD.out
      have hnx := run_next_rune hit.out hp hd
      replace hD2 := Lib.hid hD2
      replace hd := Lib.hid hd
      have hit2 := Lib.hid (Lib.iterAt_heap wr w.heap.size (bs l) pos (pos + kk) hit.out)
      have hpos : Hid (wr.iterPos w.heap.size = pos) := Lib.hid (by simp only [World.iterPos, hit.out])
      have hvx : x ≤ 1114111 := by unfold Ru.vr at hv; omega
      have hDe := (Ru.enc_len D).2
      obtain ⟨hT2, hF2⟩ := hT.out.aside (Nat.le_refl _) hB hF.out (grown_iterAt wr w.heap.size (bs l) (pos + kk))
      have hst := Lib.hid (hstep.out D vp' _ hT2.hp x hv (by have := hT2.bel.size; omega) (by omega))
      replace hT2 := Lib.hid hT2
      replace hF2 := Lib.hid hF2
      have hsn : Hid ((R.say (Ru.enc D)).say (Lib.encodeRune (x : Int)) = R.say (Ru.enc (D ++ [x]))) := Lib.hid (by unfold Il.Rw.say; rw [Ru.enc_snoc, List.append_assoc])
      have hsz2 : (wr.iterAt w.heap.size (bs l) (pos + kk)).heap.size = wr.heap.size := Lib.iterAt_size _ _ _ _
      obtain ⟨w2, hw2⟩ : ∃ w2, w2 = wr.iterAt w.heap.size (bs l) (pos + kk) := ⟨_, rfl⟩
      rw [← hw2] at hnx hit2 hT2 hF2 hst hsz2
      clear hT hF hit hw2
      go_wp2_with fail
      refine hst.out.mono ?_
      rintro e w3 ⟨rfl, vp3, hT3⟩
      rw [hsn.out] at hT3
      have hF3 := hT3.fre _ hF2.out
      have hT4 := Lib.hid (hT2.out.trans hT3)
      have hit3 := Lib.hid (hF3.1.trans hit2.out)
      have hF4 := Lib.hid hF3.2
      have hpos3 : Hid (w3.iterPos w.heap.size = pos + kk) := Lib.hid (by simp only [World.iterPos, hit3.out])
      clear hT3 hF3
      go_wp2_with fail
      go_roundw
      case rel => exact ⟨pos + kk, D ++ [x], vp3, hT4, hF4, hit3, hD2⟩
      case measure => rw [hpos.out, hpos3.out]; omega
    · have hnx := run_next_done hit.out hp
      have hDD := runes_done hp hD.out
      subst hDD
      go_wp2_with fail
      go_returns
      exact ⟨rfl, vp', hT.out⟩
end
end Go.Proofs.YtkfhkfagmokjpaaDoor

namespace Go.Proofs.YtkfhkfagmokjpaaDoor
open Go.RowKit

set_option maxHeartbeats 1000000 in
set_option maxRecDepth 100000 in
theorem prun_any (l : List UInt8) (a : Nat) (c : UInt8) (w : World) (hl : l.length ≤ 1000000000000) (hle : a ≤ l.length) :
    Calls Tryd.prog 34 #[.string (bs l), .int .i64 (a : Int), .int .u8 (c.toNat : Int)] w fun e w' => e = .returned (.int .i64 (Fn.run c (l.drop a) : Nat)) ∧ w = w' := by
  have hsz := bs_size l
  go_enter Tryd.func34, Tryd.ntmps34
  go_wp2_with fail
  go_loop [7] (fun u => ∃ k : Nat, a ≤ k ∧ k ≤ l.length ∧ u = .int .i64 (k : Int) ∧ Hid (k + Fn.run c (l.drop k) = a + Fn.run c (l.drop a))) (fun u => l.length - (intOf u).toNat)
  case atStart => exact ⟨a, by omega, hle, rfl, Lib.hid rfl⟩
  case round =>
    obtain ⟨k, hk1, hk, rfl, hf⟩ := hrel
    by_cases hlt : k < l.length
    · have hx := run_byte hlt w
      by_cases hc : l[k] = c
      · have ht := byte_same hc
        have hf2 : Hid (k + 1 + Fn.run c (l.drop (k + 1)) = a + Fn.run c (l.drop a)) := Lib.hid (by have := hf.out; rw [Fn.run_at hlt hc] at this; omega)
        clear hc
        go_wp2
        go_round
        case rel => exact ⟨k + 1, by omega, by omega, by go_num, hf2⟩
        case measure => simp [intOf]; omega
      · have ht := byte_diff hc
        have hfin := Lib.hid (show k = a + Fn.run c (l.drop a) from by have := hf.out; rw [Fn.run_no hlt hc] at this; omega)
        clear hc
        go_wp2
        go_returns
        exact ⟨by refine ret_i64 ?_; have := hfin.out; omega, rfl⟩
    · have hfin := Lib.hid (show k = a + Fn.run c (l.drop a) from by have := hf.out; rw [Fn.run_end hlt] at this; omega)
      go_wp2
      go_returns
      exact ⟨by refine ret_i64 ?_; have := hfin.out; omega, rfl⟩

set_option maxHeartbeats 2000000 in
set_option maxRecDepth 100000 in
theorem pbegins_off (l : List UInt8) (at_ : Int) (_hs : l.length ≤ 1000000000000) (ho : at_ < 0 ∨ (0 ≤ at_ ∧ (l.length : Int) ≤ at_) ∨ (0 ≤ at_ ∧ ∃ h : at_.toNat < l.length, ((l[at_.toNat].toNat : Int) == 42) = false ∧ ((l[at_.toNat].toNat : Int) == 95) = false)) (w : World) :
    Calls Tryd.prog 53 #[.string (bs l), .int .i64 at_] w fun e w' => e = .returned (.bool false) ∧ Below w.heap.size w w' := by
  have hsz := bs_size l
  rcases ho with h | ⟨h0, h⟩ | ⟨h0, hl, h1, h2⟩
  · have d1 : decide (at_ < 0) = true := decide_eq_true h
    go_enter Tryd.func53, Tryd.ntmps53
    go_wp2_with fail
    go_ret
    exact ⟨rfl, Below.refl _ _⟩
  · have d1 : decide (at_ < 0) = false := decide_eq_false (by omega)
    have d2 : decide (((l.length : Nat) : Int) ≤ at_) = true := decide_eq_true h
    go_enter Tryd.func53, Tryd.ntmps53
    go_wp2_with fail
    go_ret
    exact ⟨rfl, Below.refl _ _⟩
  · have d1 : decide (at_ < 0) = false := decide_eq_false (by omega)
    have d2 : decide (((l.length : Nat) : Int) ≤ at_) = false := decide_eq_false (by omega)
    have hix := run_byte_at (i := at_.toNat) (v := at_) (S := l) hl (by omega)
    have e1 : ((l[at_.toNat].toNat : Int) != 42) = true := by simp only [bne, h1]; rfl
    have e2 : ((l[at_.toNat].toNat : Int) != 95) = true := by simp only [bne, h2]; rfl
    generalize l[at_.toNat] = ch at *
    go_enter Tryd.func53, Tryd.ntmps53
    go_wp2_with fail
    go_ret
    exact ⟨rfl, Below.refl _ _⟩

set_option maxHeartbeats 2000000 in
set_option maxRecDepth 100000 in
theorem pbegins_in (l : List UInt8) (k : Nat) (hs : l.length ≤ 1000000000000) (hk : k < l.length) (h1 : ((l[k].toNat : Int) == 42) = true ∨ (((l[k].toNat : Int) == 42) = false ∧ ((l[k].toNat : Int) == 95) = true)) (t : Bool)
    (ht : (k = 0 ∧ t = true) ∨ (0 < k ∧ ∃ h : k - 1 < l.length, ((l[k - 1].toNat : Int) == (l[k].toNat : Int)) = !t)) (w : World) :
    Calls Tryd.prog 53 #[.string (bs l), .int .i64 (k : Int)] w fun e w' => e = .returned (.bool t) ∧ Below w.heap.size w w' := by
  have hsz := bs_size l
  have hbz := fun nq => below_drewN (Below.refl w.heap.size w) nq
  replace hbz := Lib.hid hbz
  have d1 : decide ((k : Int) < 0) = false := decide_eq_false (by omega)
  have d2 : decide (((l.length : Nat) : Int) ≤ (k : Int)) = false := decide_eq_false (by omega)
  have hix := run_byte hk
  have e1 : ((l[k].toNat : Int) != 42) = !((l[k].toNat : Int) == 42) := rfl
  have e2 : ((l[k].toNat : Int) != 95) = !((l[k].toNat : Int) == 95) := rfl
  rcases ht with ⟨h0, rfl⟩ | ⟨h0, hp, ht⟩
  · have d3 : ((k : Int) == 0) = true := by simpa using h0
    generalize l[k] = ch at *
    clear h0
    rcases h1 with h1 | ⟨h1, h1'⟩
    all_goals
      go_enter Tryd.func53, Tryd.ntmps53
      go_wp2_with fail
      go_quiet (fail)
      go_wp2_with fail
      go_ret
      exact ⟨rfl, hbz.out nq⟩
  · have d3 : ((k : Int) == 0) = false := by
      rw [beq_eq_false_iff_ne]; omega
    have hix1 := run_byte_at (i := k - 1) (v := (k : Int) - 1) (S := l) hp (by omega)
    have e3 : ((l[k - 1].toNat : Int) != (l[k].toNat : Int)) = t := by simp only [bne, ht, Bool.not_not]
    clear ht
    generalize l[k] = ch at *
    generalize l[k - 1] = cp at *
    rcases h1 with h1 | ⟨h1, h1'⟩
    all_goals
      go_enter Tryd.func53, Tryd.ntmps53
      go_wp2_with fail
      go_quiet (fail)
      go_wp2_with fail
      go_ret
      exact ⟨rfl, hbz.out nq⟩

theorem pbegins_any (l : List UInt8) (at_ : Int) (hs : l.length ≤ 1000000000000) (w : World) :
    Calls Tryd.prog 53 #[.string (bs l), .int .i64 at_] w fun e w' => e = .returned (.bool (Em.starts l at_)) ∧ Below w.heap.size w w' := by
  by_cases h0 : at_ < 0
  · rw [Em.starts_no (.inl h0)]
    exact pbegins_off l at_ hs (.inl h0) w
  · by_cases h1 : (l.length : Int) ≤ at_
    · rw [Em.starts_no (.inr (.inl h1))]
      exact pbegins_off l at_ hs (.inr (.inl ⟨by omega, h1⟩)) w
    · obtain ⟨k, rfl⟩ : ∃ k : Nat, at_ = (k : Int) := ⟨at_.toNat, by omega⟩
      have hk : k < l.length := by omega
      by_cases h2 : l[k] = 42 ∨ l[k] = 95
      · have hsg : ((l[k].toNat : Int) == 42) = true ∨ (((l[k].toNat : Int) == 42) = false ∧ ((l[k].toNat : Int) == 95) = true) := by
          rcases h2 with h2 | h2
          · rw [h2]; exact .inl rfl
          · rw [h2]; exact .inr ⟨rfl, rfl⟩
        rcases Nat.eq_zero_or_pos k with hz | hz
        · rw [Em.starts_yes hk h2 (.inl hz)]
          exact pbegins_in l k hs hk hsg true (.inl ⟨hz, rfl⟩) w
        · by_cases h3 : l[k - 1] = l[k]
          · rw [Em.starts_no (l := l) (at_ := (k : Int)) (.inr (.inr (.inr ⟨by omega, hk, h3⟩)))]
            exact pbegins_in l k hs hk hsg false (.inr ⟨hz, by omega, byte_same h3⟩) w
          · rw [Em.starts_yes hk h2 (.inr ⟨by omega, h3⟩)]
            exact pbegins_in l k hs hk hsg true (.inr ⟨hz, by omega, byte_diff h3⟩) w
      · have hn : l[k] ≠ 42 ∧ l[k] ≠ 95 := ⟨fun h => h2 (.inl h), fun h => h2 (.inr h)⟩
        rw [Em.starts_no (l := l) (at_ := (k : Int)) (.inr (.inr (.inl ⟨hk, hn⟩)))]
        exact pbegins_off l (k : Int) hs (.inr (.inr ⟨by omega, hk, byte_ne (n := 42) (by omega) hn.1, byte_ne (n := 95) (by omega) hn.2⟩)) w

set_option maxHeartbeats 2000000 in
theorem pleans_any (a b : Nat) (w : World) :
    Calls Tryd.prog 55 #[.int .i32 (a : Int), .int .i32 (b : Int)] w fun e w' => e = .returned (.bool (Em.leanB b a)) ∧ w = w' := by
  unfold Em.leanB
  obtain ⟨BA, hBA⟩ : ∃ x, blankB (a : Int) = x := ⟨_, rfl⟩
  obtain ⟨BB, hBB⟩ : ∃ x, blankB (b : Int) = x := ⟨_, rfl⟩
  obtain ⟨PA, hPA⟩ : ∃ x, punctB (a : Int) = x := ⟨_, rfl⟩
  obtain ⟨PB, hPB⟩ : ∃ x, punctB (b : Int) = x := ⟨_, rfl⟩
  have q1 := fun w => blank_any (a : Int) w
  have q2 := fun w => blank_any (b : Int) w
  have q3 := fun w => punct_any (a : Int) w
  have q4 := fun w => punct_any (b : Int) w
  rw [hBA] at q1 ⊢
  rw [hBB] at q2 ⊢
  rw [hPA] at q3 ⊢
  rw [hPB] at q4 ⊢
  clear hBA hBB hPA hPB
  go_enter Tryd.func55, Tryd.ntmps55
  go_wp2_with fail
  refine (q1 _).mono ?_
  rintro e w1 ⟨rfl, rfl⟩
  cases BA with
  | true =>
    go_wp2_with fail
    go_ret
    exact ⟨rfl, rfl⟩
  | false =>
    go_wp2_with fail
    refine (q3 _).mono ?_
    rintro e w1 ⟨rfl, rfl⟩
    cases PA with
    | false =>
      go_wp2_with fail
      go_ret
      exact ⟨rfl, rfl⟩
    | true =>
      go_wp2_with fail
      refine (q2 _).mono ?_
      rintro e w1 ⟨rfl, rfl⟩
      cases BB with
      | true =>
        go_wp2_with fail
        go_ret
        exact ⟨rfl, rfl⟩
      | false =>
        go_wp2_with fail
        refine (q4 _).mono ?_
        rintro e w1 ⟨rfl, rfl⟩
        go_wp2_with fail
        go_ret
        exact ⟨rfl, rfl⟩
end Go.Proofs.YtkfhkfagmokjpaaDoor

namespace Go.Proofs.YtkfhkfagmokjpaaDoor
open Go.RowKit


end Go.Proofs.YtkfhkfagmokjpaaDoor

namespace Go.Proofs.YtkfhkfagmokjpaaDoor
open Go.RowKit


end Go.Proofs.YtkfhkfagmokjpaaDoor

namespace Go.Proofs.YtkfhkfagmokjpaaDoor
open Go.RowKit


end Go.Proofs.YtkfhkfagmokjpaaDoor

namespace Go.Proofs.YtkfhkfagmokjpaaDoor
open Go.RowKit


end Go.Proofs.YtkfhkfagmokjpaaDoor

namespace Go.Proofs.YtkfhkfagmokjpaaDoor
open Go.RowKit

theorem sign_test {b : UInt8} (h : b = 42 ∨ b = 95) : (((b.toNat : Int) == 42) = true ∧ ((b.toNat : Int) == 95) = false ∧ b ≠ 95) ∨ (((b.toNat : Int) == 42) = false ∧ ((b.toNat : Int) == 95) = true ∧ b = 95) := by
  rcases h with h | h
  · subst h; exact .inl ⟨rfl, rfl, by decide⟩
  · subst h; exact .inr ⟨rfl, rfl, rfl⟩
end Go.Proofs.YtkfhkfagmokjpaaDoor

section
namespace Go.Proofs.YtkfhkfagmokjpaaDoor
open Go.RowKit

theorem pheldEI : EI Tryd.prog 52 75 4 24 := EI.mk' Tryd.underlying52 (z := .agg #[.int .u8 0, .int .i64 0, .bool false, .bool false]) (by kernel_rfl) rfl (by omega)
theorem made_runs (n : Nat) : (madeCells #[.int .u8 0, .int .i64 0, .bool false, .bool false] (n * 4)).toList = acells (List.replicate n Em.none_) := by
  apply List.ext_getElem?
  intro j
  by_cases hj : j < n * 4
  · have hk : j / 4 < (List.replicate n Em.none_).length := by rw [List.length_replicate]; omega
    have h1 := flat_at (f := acell) (m := 4) (fun _ => rfl) (List.replicate n Em.none_) (j / 4) (j % 4) hk (by omega)
    rw [show j / 4 * 4 + j % 4 = j by omega] at h1
    rw [show acells (List.replicate n Em.none_) = (List.replicate n Em.none_).flatMap acell from rfl, h1, List.getElem_replicate]
    simp only [madeCells, Array.toList_map, Array.toList_range, List.getElem?_map, List.getElem?_range hj, Option.map_some]
    have h4 : j % 4 = 0 ∨ j % 4 = 1 ∨ j % 4 = 2 ∨ j % 4 = 3 := by omega
    rcases h4 with h | h | h | h <;> (simp only [List.size_toArray, List.length_cons, List.length_nil, h]; rfl)
  · rw [List.getElem?_eq_none (by simp [madeCells]; omega), List.getElem?_eq_none (by rw [acells_len, List.length_replicate]; omega)]
/-- a run set -/
theorem acells_set (X : List Em.R) (r : Em.R) : ∀ (k : Nat), k < X.length → ((((acells X).set (k * 4) (.int .u8 (r.ch.toNat : Int))).set (k * 4 + 1) (.int .i64 r.n)).set (k * 4 + 2) (.bool r.o)).set (k * 4 + 3) (.bool r.c) = acells (X.set k r) := by
  induction X with
  | nil => intro k hk; simp at hk
  | cons x X ih =>
    intro k hk
    cases k with
    | zero => rfl
    | succ k =>
      have := ih k (by simpa using hk)
      rw [List.set_cons_succ, show acells (x :: X.set k r) = acell x ++ acells (X.set k r) from rfl, ← this, show acells (x :: X) = acell x ++ acells X from rfl]
      have h4 : (acell x).length = 4 := rfl
      rw [List.set_append_right _ _ (by rw [h4]; omega), List.set_append_right _ _ (by rw [h4]; omega), List.set_append_right _ _ (by rw [h4]; omega), List.set_append_right _ _ (by rw [h4]; omega), h4,
        show (k + 1) * 4 - 4 = k * 4 by omega, show (k + 1) * 4 + 1 - 4 = k * 4 + 1 by omega, show (k + 1) * 4 + 2 - 4 = k * 4 + 2 by omega, show (k + 1) * 4 + 3 - 4 = k * 4 + 3 by omega]
/-- the first ones held -/
def mixH (l : List Em.R) (k : Nat) : List Em.R := (Em.hold l).take k ++ List.replicate (l.length - k) Em.none_
theorem hold_len (l : List Em.R) : (Em.hold l).length = l.length := by simp [Em.hold]
theorem mixH_len {l : List Em.R} {k : Nat} (h : k ≤ l.length) : (mixH l k).length = l.length := by simp [mixH, hold_len]; omega
theorem mixH_zero (l : List Em.R) : mixH l 0 = List.replicate l.length Em.none_ := by simp [mixH]
theorem mixH_all (l : List Em.R) : mixH l l.length = Em.hold l := by
  unfold mixH
  rw [List.take_of_length_le (by rw [hold_len]; exact Nat.le_refl _), Nat.sub_self]; simp
theorem mixH_set {l : List Em.R} {k : Nat} (h : k < l.length) : (mixH l k).set k ⟨l[k].ch, Em.held l[k].n, l[k].o, l[k].c⟩ = mixH l (k + 1) := by
  unfold mixH
  have hh : k < (Em.hold l).length := by rw [hold_len]; exact h
  obtain ⟨m, hm⟩ : ∃ m, l.length - k = m + 1 := ⟨l.length - k - 1, by omega⟩
  have hl : ((Em.hold l).take k).length = k := by rw [List.length_take]; omega
  rw [List.set_append_right _ _ (by omega), hl, Nat.sub_self, hm, List.replicate_succ, List.set_cons_zero, show l.length - (k + 1) = m by omega, List.take_succ_eq_append_getElem hh, List.append_assoc]
  simp [Em.hold]
theorem mixH_at {l : List Em.R} {k : Nat} (h : k < l.length) : (mixH l k)[k]'(by rw [mixH_len (by omega)]; exact h) = Em.none_ := by
  have hl : ((Em.hold l).take k).length = k := by rw [List.length_take, hold_len]; omega
  simp only [mixH]
  rw [List.getElem_append_right (by omega)]
  simp
/-- four cells set -/
theorem own_set4 {w : World} {B g n c : Nat} {X : List Em.R} {E : TypeId} (h : w.ownsRow B E 4 (.slice (some ⟨g, 0, none⟩) n c) n (acells X)) (r : Em.R) {k : Nat} (hk : k < X.length) :
    ((((w.setCell ⟨g, k * 4, none⟩ (.int .u8 (r.ch.toNat : Int))).setCell ⟨g, k * 4 + 1, none⟩ (.int .i64 r.n)).setCell ⟨g, k * 4 + 2, none⟩ (.bool r.o)).setCell ⟨g, k * 4 + 3, none⟩ (.bool r.c)).ownsRow B E 4 (.slice (some ⟨g, 0, none⟩) n c) n (acells (X.set k r)) := by
  have := ((((h.stored (k * 4) (.int .u8 (r.ch.toNat : Int))).1.stored (k * 4 + 1) (.int .i64 r.n)).1.stored (k * 4 + 2) (.bool r.o)).1.stored (k * 4 + 3) (.bool r.c)).1
  rwa [acells_set X r k hk] at this
theorem own_cell4 {w : World} {B g n c : Nat} {X : List Em.R} {E : TypeId} (h : w.ownsRow B E 4 (.slice (some ⟨g, 0, none⟩) n c) n (acells X)) {k : Nat} (hk : k < X.length) :
    w.cell? ⟨g, k * 4, none⟩ = some (.int .u8 (X[k].ch.toNat : Int)) ∧ w.cell? ⟨g, k * 4 + 1, none⟩ = some (.int .i64 X[k].n) ∧ w.cell? ⟨g, k * 4 + 2, none⟩ = some (.bool X[k].o) ∧ w.cell? ⟨g, k * 4 + 3, none⟩ = some (.bool X[k].c) := by
  have hat := fun i (hi : i < 4) => flat_at (f := acell) (m := 4) (fun _ => rfl) X k i hk hi
  have hc := fun j u hu => h.cells (g := g) rfl j u hu
  have ha : ∀ j, (⟨g, 0, none⟩ : Addr).add j = ⟨g, j, none⟩ := fun j => by unfold Addr.add; split <;> simp_all
  simp only [ha] at hc
  exact ⟨hc _ _ ((hat 0 (by omega)).trans rfl), hc _ _ ((hat 1 (by omega)).trans rfl), hc _ _ ((hat 2 (by omega)).trans rfl), hc _ _ ((hat 3 (by omega)).trans rfl)⟩
theorem below_set4 {B : Nat} {a w : World} {g j : Nat} (h : Below B a w) (hg : B ≤ g) (p q r s : Value) : Below B a ((((w.setCell ⟨g, j, none⟩ p).setCell ⟨g, j + 1, none⟩ q).setCell ⟨g, j + 2, none⟩ r).setCell ⟨g, j + 3, none⟩ s) :=
  (((h.setCell (p := ⟨g, j, none⟩) hg _).setCell (p := ⟨g, j + 1, none⟩) hg _).setCell (p := ⟨g, j + 2, none⟩) hg _).setCell (p := ⟨g, j + 3, none⟩) hg _

set_option maxHeartbeats 4000000 in
set_option maxRecDepth 100000 in
theorem pheld_any (l : List Em.R) (A : Option Addr) (c : Nat) (w : World) (h : Row w w.heap.size 4 A l.length (acells l)) (hl : l.length ≤ 4000000) :
    Calls Tryd.prog 41 #[.slice A l.length c] w fun e w' => (∃ v, e = .returned v ∧ w'.ownsRow w.heap.size 75 4 v l.length (acells (Em.hold l))) ∧ Below w.heap.size w w' := by
  have hR := Lib.hid h
  clear h
  have hmk := fun w => run_mk pheldEI (z := .agg #[.int .u8 0, .int .i64 0, .bool false, .bool false]) (by kernel_rfl) l.length (by omega) (by omega) w
  have hown0 := Lib.hid (own_mk w w.heap.size 4 l.length 75 #[.int .u8 0, .int .i64 0, .bool false, .bool false] (Nat.le_refl _) (by omega))
  replace hown0 := Lib.hid (by have := hown0.out; rwa [made_runs, ← mixH_zero] at this)
  simp only [Value.cells] at hmk
  generalize madeCells _ (l.length * 4) = C at *
  have hb0 := Lib.hid (ext_alloc w (.cells C 75))
  go_enter Tryd.func41, Tryd.ntmps41
  go_wp2_with fail
  go_loopw [11] (fun i wr => ∃ k : Nat, k ≤ l.length ∧ i = .int .i64 k ∧ Hid (wr.ownsRow w.heap.size 75 4 (.slice (some ⟨w.heap.size, 0, none⟩) l.length l.length) l.length (acells (mixH l k))) ∧ Below w.heap.size w wr) (fun i _ => l.length - (intOf i).toNat)
  case atStart => exact ⟨0, Nat.zero_le _, rfl, hown0, hb0.out⟩
  case round =>
    obtain ⟨k, hk, rfl, hown, hb⟩ := hrel
    clear hown0 hb0 hmk
    have hz := hb.size
    by_cases hkl : k < l.length
    · obtain ⟨b, o, rfl, hbb, hc⟩ := run_cell hR.out (by omega)
      obtain ⟨c0, c1, c2, c3⟩ := hc k hkl
      have d0 := (hb.cell (p := ⟨b, o + k * 4, none⟩) hbb).trans c0
      have d1 := (hb.cell (p := ⟨b, o + k * 4 + 1, none⟩) hbb).trans c1
      have d2 := (hb.cell (p := ⟨b, o + k * 4 + 2, none⟩) hbb).trans c2
      have d3 := (hb.cell (p := ⟨b, o + k * 4 + 3, none⟩) hbb).trans c3
      clear hc c0 c1 c2 c3
      obtain ⟨X, hX, hXs, hkX⟩ : ∃ X : List Em.R, mixH l k = X ∧ X.set k ⟨l[k].ch, Em.held l[k].n, l[k].o, l[k].c⟩ = mixH l (k + 1) ∧ k < X.length := ⟨_, rfl, mixH_set hkl, by rw [mixH_len (by omega)]; exact hkl⟩
      rw [hX] at hown
      clear hX
      replace hXs := Lib.hid hXs
      have hlt := hown.out.lt _ rfl
      go_upto_region 5 with fail
      generalize hw2 : World.alloc wr _ = w2
      have hb2 : Below wr.heap.size wr w2 := by rw [← hw2]; exact ext_alloc _ _
      have hloc : w2.heap[wr.heap.size]? = some (.cells #[.int .u8 (l[k].ch.toNat : Int), .int .i64 l[k].n, .bool l[k].o, .bool l[k].c] 75 (0, 0)) := by rw [← hw2]; exact heap_alloc_new _ _
      clear hw2
      have hown2 := own_below hown.out hb2
      have hB2 := hb.trans (hb2.mono hz)
      obtain ⟨y0, y1, y2, y3⟩ := four hloc
      have hfz := blk_free hloc
      obtain ⟨kk, hkk⟩ : ∃ kk : Int, kk = (if l[k].n < 0 then 0 else l[k].n) := ⟨_, rfl⟩
      have hk1 : (if l[k].n < 0 then 0 else l[k].n) = kk := hkk.symm
      have hk2 : max l[k].n 0 = kk := by rw [hkk]; split <;> omega
      have hk3 : (if (100 : Int) < kk then (100 : Int) else kk) = ((Em.held l[k].n : Nat) : Int) := by unfold Em.held; rw [hkk]; split <;> split <;> omega
      have hk4 : min kk 100 = ((Em.held l[k].n : Nat) : Int) := by unfold Em.held; rw [hkk]; split <;> omega
      have hset := fun (v : Value) => heap_setCell_same w2 wr.heap.size 1 _ _ v hloc
      replace hset := Lib.hid hset
      replace hloc := Lib.hid hloc
      replace hown2 := Lib.hid hown2
      replace hB2 := Lib.hid hB2
      clear hkk d0 d1 d2 d3
      go_upto_region 6 with fail
      generalize hw3 : World.setCell w2 _ _ = w3
      have hloc3 : w3.heap[wr.heap.size]? = some (.cells #[.int .u8 (l[k].ch.toNat : Int), .int .i64 (Em.held l[k].n : Nat), .bool l[k].o, .bool l[k].c] 75 (0, 0)) := by rw [← hw3]; exact hset.out _
      have hown3 := Lib.hid (show w3.ownsRow w.heap.size 75 4 (.slice (some ⟨w.heap.size, 0, none⟩) l.length l.length) l.length (acells X) from by
        rw [← hw3]
        exact World.ownsRow.kept hown2.out (grown_set w2 ⟨wr.heap.size, 1, none⟩ _) (.inr fun e => by
          have e2 : w.heap.size = wr.heap.size := Option.some.inj e
          omega))
      have hB3 : Below w.heap.size w w3 := by rw [← hw3]; exact hB2.out.setCell (p := ⟨wr.heap.size, 1, none⟩) hz _
      clear hw3 hset hown2 hB2 y0 y1 y2 y3 hfz hloc hown hb hb2
      obtain ⟨y0, y1, y2, y3⟩ := four hloc3
      obtain ⟨x0, x1, x2, x3⟩ := own_cell4 hown3.out hkX
      have hfx := fun j => hown3.out.frozenAt j
      have hset4 := Lib.hid (own_set4 hown3.out ⟨l[k].ch, Em.held l[k].n, l[k].o, l[k].c⟩ hkX)
      have hbel4 := Lib.hid (below_set4 (j := k * 4) hB3 (Nat.le_refl w.heap.size) (.int .u8 (l[k].ch.toNat : Int)) (.int .i64 (Em.held l[k].n : Nat)) (.bool l[k].o) (.bool l[k].c))
      clear hloc3 hown3 hB3
      go_wp2_with fail
      go_roundw
      case rel => exact ⟨k + 1, hkl, by go_num, Lib.hid (by rw [← hXs.out]; exact hset4.out), hbel4.out⟩
      case measure => simp [intOf]; omega
    · have hke : k = l.length := by omega
      subst hke
      rw [mixH_all] at hown
      go_wp2_with fail
      go_ret
      exact ⟨⟨_, rfl, hown.out⟩, hb⟩
end Go.Proofs.YtkfhkfagmokjpaaDoor
end

section
namespace Go.Proofs.YtkfhkfagmokjpaaDoor
open Go.RowKit
attribute [local go_sem] canOp readsAs readUpon

theorem own_int {w : World} {B g n c : Nat} {E : TypeId} {L : List Nat} (h : w.ownsRow B E 1 (.slice (some ⟨g, 0, none⟩) n c) n (lcells L)) {k : Nat} (hk : k < L.length) : w.cell? ⟨g, k, none⟩ = some (.int .i64 (L[k] : Int)) := by
  have := h.cells (g := g) rfl k _ (lcells_at hk)
  rwa [show (⟨g, 0, none⟩ : Addr).add k = ⟨g, k, none⟩ from by unfold Addr.add; split <;> simp_all] at this
/-- what is told of the nearest one -/
def NearV (O : List Nat) (l : List Em.R) (c : Nat) : Option Nat → Prop
  | some i => ∃ hi : i < O.length, Em.fitP (Em.get l O[i]) (Em.get l c) = true ∧ ∀ k (hk : k < O.length), i < k → Em.fitP (Em.get l O[k]) (Em.get l c) = false
  | none => ∀ j ∈ O, Em.fitP (Em.get l j) (Em.get l c) = false
def nearV : Option Nat → Value
  | some i => .tuple #[.int .i64 (i : Int), .bool true]
  | none => .tuple #[.int .i64 0, .bool false]

/-- the search stands at a place -/
def NearAt (O : List Nat) (l : List Em.R) (c : Nat) (v : Value) : Prop := ∃ (z : Int) (m : Nat), v = .int .i64 z ∧ z = (m : Int) - 1 ∧ m ≤ O.length ∧ Hid (∀ k (hk : k < O.length), m ≤ k → Em.fitP (Em.get l O[k]) (Em.get l c) = false)

set_option maxHeartbeats 4000000 in
set_option maxRecDepth 100000 in
theorem pnearest_any {B b : Nat} {x : Option Part} {v : Vs} {l : List Em.R} {L O N : List Nat} {P : List (Nat × Nat × Nat)} {w : World} (hM : PM B b x v l L O N P w) (c : Nat) (hc : c < l.length) (hl : l.length ≤ 4000000) (hH : Em.Held l)
    (hO : O.length ≤ 4000000) (hOl : ∀ j ∈ O, j < l.length) (hs : O.Pairwise (· < ·)) (hNl : N.length = 1536) (hN : ∀ j ∈ O, j < Em.lf N (Em.sortN (Em.get l c)) → Em.fitP (Em.get l j) (Em.get l c) = false) :
    Calls Tryd.prog 58 #[.pointer (some ⟨b, 0, none⟩), .int .i64 (c : Int)] w fun e w' => ∃ r, e = .returned (nearV r) ∧ NearV O l c r ∧ Below B w w' ∧ PM B b x v l L O (if r = none then N.set (Em.sortN (Em.get l c)) c else N) P w' := by
  obtain ⟨hB, hbw, hfz, m0, m1, m2, m3, m4⟩ := hM.blk
  obtain ⟨gr, cr, hvr, hcr, hBr, hgr⟩ := own_some hM.rowr (by omega)
  obtain ⟨gn, cn, hvn, hcn, hBn, hgn⟩ := own_some hM.rown (by omega)
  obtain ⟨A, co, hvo, hco⟩ := own_shape hM.rowo
  have hgc : Em.get l c = l[c] := Em.get_at hc
  have q1 := fun w => psort_any l[c] (hH _ (List.getElem_mem hc)) w
  obtain ⟨s, hsd⟩ : ∃ s, s = Em.sortN (Em.get l c) := ⟨_, rfl⟩
  have hs6 : s < 1536 := by rw [hsd]; exact Em.sortN_lt _
  rw [← hgc, ← hsd] at q1
  have hM0 := Lib.hid hM
  have hvn0 := Lib.hid hvn
  have hvo0 := Lib.hid hvo
  have hvr0 := Lib.hid hvr
  have hrr := hM.rowr
  rw [hvr] at hrr
  obtain ⟨x0, x1, x2, x3⟩ := own_cell4 hrr hc
  rw [hvr] at m0
  rw [hvn] at m3
  rw [hvo] at m2
  unfold aval at q1
  rw [hgc] at q1
  have hbl := Lib.hid (ext_alloc w (.cells #[.int .u8 (l[c].ch.toNat : Int), .int .i64 l[c].n, .bool l[c].o, .bool l[c].c] 75))
  have hloc := Lib.hid (heap_alloc_new w (.cells #[.int .u8 (l[c].ch.toNat : Int), .int .i64 l[c].n, .bool l[c].o, .bool l[c].c] 75))
  have hH0 := Lib.hid hH
  replace hs := Lib.hid hs
  replace hN := Lib.hid hN
  replace hOl := Lib.hid hOl
  replace hsd := Lib.hid hsd
  replace hgc := Lib.hid hgc
  clear hrr hM m1 m4 hvr hvn hvo hH
  go_enter Tryd.func58, Tryd.ntmps58
  go_wp2_with fail
  refine (q1 _).mono ?_
  rintro e w1 ⟨rfl, hb1⟩
  have hloc1 := (keep hloc.out hb1).1
  have hw1 := ext_trans hbl.out hb1
  have hM1 := hM0.out.ext hw1
  clear hM0 hbl hloc hb1 q1 m0 m2 m3 x0 x1 x2 x3 hfz
  have hz1 := hw1.size
  obtain ⟨_, hbw1, _, m0, m1, m2, m3, m4⟩ := hM1.blk
  rw [hvr0.out] at m0
  rw [hvn0.out] at m3
  rw [hvo0.out] at m2
  replace hw1 := Lib.hid hw1
  replace hM1 := Lib.hid hM1
  replace hloc1 := Lib.hid hloc1
  clear m1 m4
  go_wp2_with fail
  go_loopw [8] (fun u wr => NearAt O l c u ∧ Hid (Below w1.heap.size w1 wr)) (fun u _ => (intOf u + 1).toNat)
  case atStart => exact ⟨⟨(O.length : Int) - 1, O.length, rfl, rfl, Nat.le_refl _, Lib.hid fun k hk h => by omega⟩, Lib.hid (Below.refl _ _)⟩
  case round =>
    obtain ⟨⟨z, m, rfl, hz, hm, hno⟩, hq⟩ := hrel
    clear m0 m2 m3
    have hMr := hM1.out.ext hq.out
    obtain ⟨_, hbwr, _, m0, m1, m2, m3, m4⟩ := hMr.blk
    rw [hvr0.out] at m0
    rw [hvn0.out] at m3
    rw [hvo0.out] at m2
    have hnn := hMr.rown
    rw [hvn0.out] at hnn
    have n0 := own_int hnn (k := s) (by omega)
    have nf := fun n => (own_below hnn (below_drewN (Below.refl wr.heap.size wr) n)).frozenAt s
    have hlfs : Em.lf N s = N[s]'(by omega) := Em.lf_at (by omega)
    have hstN := Lib.hid (fun n => (hMr.ext (below_drewN (Below.refl wr.heap.size wr) n)).setN hvn0.out s c)
    have hwr := ext_trans hw1.out (show Below w1.heap.size w1 wr from hq.out)
    have hstB := Lib.hid (fun n => (below_drewN (hwr.mono (Nat.le_trans hB (Nat.le_of_lt hbw))) n).setCell (p := ⟨gn, s, none⟩) hBn (.int .i64 (c : Int)))
    have hBr0 := Lib.hid (hwr.mono (Nat.le_trans hB (Nat.le_of_lt hbw)))
    have hgnr : gn < wr.heap.size := Nat.lt_of_lt_of_le hgn hwr.size
    replace hMr := Lib.hid hMr
    clear hnn hwr m1 m4
    rcases Nat.eq_zero_or_pos m with rfl | hmp
    · obtain rfl : z = -1 := by omega
      have hall : Hid (NearV O l c none) := Lib.hid fun j hj => by
        obtain ⟨k, hk, rfl⟩ := List.getElem_of_mem hj
        exact hno.out k hk (Nat.zero_le _)
      clear hno hz hN m2 hlfs
      go_wp2_with fail
      go_quiet (fail)
      go_wp2_with fail
      go_ret2
      exact ⟨none, rfl, hall.out, hstB.out nq, by rw [if_pos rfl, ← hsd.out]; exact hstN.out nq⟩
    · obtain ⟨j, rfl⟩ : ∃ j, m = j + 1 := ⟨m - 1, by omega⟩
      obtain rfl : z = (j : Int) := by omega
      have hjO : j < O.length := by omega
      have hoo := hMr.out.rowo
      rw [hvo0.out] at hoo
      obtain ⟨go, rfl⟩ : ∃ g, A = some ⟨g, 0, none⟩ := by
        rcases hoo.2 with ⟨hv, h0⟩ | ⟨g, cap, cur, hv, _⟩
        · omega
        · injection hv with h1 _ _; exact ⟨g, h1⟩
      have o0 := own_int hoo hjO
      clear hoo
      obtain ⟨oj, hoj⟩ : ∃ o, o = O[j] := ⟨_, rfl⟩
      rw [← hoj] at o0
      have hojl : oj < l.length := by rw [hoj]; exact hOl.out _ (List.getElem_mem hjO)
      by_cases hge : N[s] ≤ oj
      · have d0 : decide ((N[s] : Int) ≤ (oj : Int)) = true := decide_eq_true (by omega)
        have d1 : decide (N[s] ≤ oj) = true := decide_eq_true hge
        have hrr := hMr.out.rowr
        rw [hvr0.out] at hrr
        obtain ⟨y0, y1, y2, y3⟩ := own_cell4 hrr hojl
        clear hrr
        obtain ⟨z0, z1, z2, z3⟩ := four (keep hloc1.out hq.out).1
        have hgo : Em.get l oj = l[oj] := Em.get_at hojl
        have q := fun w => pfit_any l[oj] l[c] (hH0.out _ (List.getElem_mem hojl)) (hH0.out _ (List.getElem_mem hc)) w
        obtain ⟨F, hF⟩ : ∃ F, F = Em.fitP l[oj] l[c] := ⟨_, rfl⟩
        have hFO : Hid (F = Em.fitP (Em.get l O[j]) (Em.get l c)) := Lib.hid (by rw [← hoj, hF, hgo, hgc.out])
        rw [← hF] at q
        unfold aval at q
        clear hF hgo hz hN hlfs hge
        replace hoj := Lib.hid hoj
        generalize N[s] = ns at *
        have hloc2 := (keep hloc1.out hq.out).1
        have hSd : Hid (∀ n u, Below (wr.drewN n).heap.size (wr.drewN n) u → (u.cell? ⟨b, 0, none⟩ = some (.slice (some ⟨gr, 0, none⟩) l.length cr) ∧ u.cell? ⟨b, 2, none⟩ = some (.slice (some ⟨go, 0, none⟩) O.length co) ∧ u.cell? ⟨go, j, none⟩ = some (.int .i64 (oj : Int))) ∧
            (u.cell? ⟨gr, oj * 4, none⟩ = some (.int .u8 (l[oj].ch.toNat : Int)) ∧ u.cell? ⟨gr, oj * 4 + 1, none⟩ = some (.int .i64 l[oj].n) ∧ u.cell? ⟨gr, oj * 4 + 2, none⟩ = some (.bool l[oj].o) ∧ u.cell? ⟨gr, oj * 4 + 3, none⟩ = some (.bool l[oj].c)) ∧
            (u.cell? ⟨w.heap.size, 0, none⟩ = some (.int .u8 (l[c].ch.toNat : Int)) ∧ u.cell? ⟨w.heap.size, 1, none⟩ = some (.int .i64 l[c].n) ∧ u.cell? ⟨w.heap.size, 2, none⟩ = some (.bool l[c].o) ∧ u.cell? ⟨w.heap.size, 3, none⟩ = some (.bool l[c].c))) := Lib.hid fun n u hu => by
          have hu2 : Below wr.heap.size wr u := ext_trans (below_drewN (Below.refl wr.heap.size wr) n) hu
          have hMu := hMr.out.ext hu2
          obtain ⟨_, _, _, m0, _, m2, _, _⟩ := hMu.blk
          have hrr := hMu.rowr
          have hoo := hMu.rowo
          rw [hvr0.out] at m0 hrr
          rw [hvo0.out] at m2 hoo
          exact ⟨⟨m0, m2, by rw [hoj.out]; exact own_int hoo hjO⟩, own_cell4 hrr hojl, four (keep hloc2 hu2).1⟩
        have hBr1 := Lib.hid (fun (n : Nat) => below_drewN hBr0.out n)
        have hMr1 := Lib.hid (fun (n : Nat) => hMr.out.ext (below_drewN (Below.refl wr.heap.size wr) n))
        clear hloc2 hstN hstB
        go_wp2_with fail
        go_quiet (fail)
        go_wp2_with fail
        clear m0 m2 m3 n0 o0 y0 y1 y2 y3 z0 z1 z2 z3
        replace hSd := Lib.hid (hSd.out nq)
        replace hBr1 := Lib.hid (hBr1.out nq)
        replace hMr1 := Lib.hid (hMr1.out nq)
        have hbn : b < (wr.drewN nq).heap.size := hbwr
        have hnr : w1.heap.size ≤ (wr.drewN nq).heap.size := hq.out.size
        have hqn := Lib.hid (below_drewN hq.out nq)
        generalize wr.drewN nq = wd at *
        have hS : Ext wd wd.drew := ext_drew wd
        obtain ⟨⟨m0, m2, o0⟩, ⟨y0, y1, y2, y3⟩, ⟨z0, z1, z2, z3⟩⟩ := hSd.out wd.drew hS
        refine wp_region_can ((true, 0) :: (true, 1) :: (true, 2) :: (true, 3) :: (true, 4) :: (true, 5) :: (true, 6) :: (true, 7) :: (true, 8) :: (true, 9) :: (true, 10) :: (true, 11) :: (true, 12) :: (true, 13) :: (false, 14) :: []) (Ext wd) hS (by kernel_rfl) (by kernel_rfl) (by kernel_rfl) (fun _ _ d _ _ h => by cases d <;> exact h) ?_
        iterate 14 (first | refine wpCan_move rfl ?_ | (refine wpCan_cons rfl ?_; intro K hK; go_simp; first | (refine hK _ _ _ ?_; clear hK K) | (refine ⟨fun w' hw' => by obtain ⟨⟨m0, m2, o0⟩, ⟨y0, y1, y2, y3⟩, ⟨z0, z1, z2, z3⟩⟩ := hSd.out w' hw'; go_simp, hK _ _ _ ?_⟩; clear hK K)))
        refine wpCan_cons rfl ?_
        intro K hK
        go_simp
        refine (q _).mono ?_
        rintro e w4 ⟨rfl, hb4⟩
        replace hb4 := ext_trans (ext_drew wd) hb4
        refine can_ext hb4 (hK _ _ _ ?_)
        clear hK K q
        refine wpCan_nil ?_
        have hB4 := Lib.hid (hBr1.out.trans (hb4.mono (Nat.le_trans (Nat.le_trans hB (Nat.le_of_lt hbw)) (Nat.le_trans hz1 hnr))))
        have hM4 := Lib.hid (hMr1.out.ext hb4)
        have hq4 := Lib.hid (show Below w1.heap.size w1 w4 from hqn.out.trans (hb4.mono hnr))
        clear hMr1 hBr1 hb4 m0 m2 o0 y0 y1 y2 y3 z0 z1 z2 z3 hSd hS
        cases F with
        | true =>
          have hsome : Hid (NearV O l c (some j)) := Lib.hid ⟨hjO, hFO.out.symm, fun k hk h => hno.out k hk h⟩
          go_wp2_with fail
          go_ret2
          exact ⟨some j, rfl, hsome.out, hB4.out, hM4.out⟩
        | false =>
          have hno2 : Hid (∀ k (hk : k < O.length), j ≤ k → Em.fitP (Em.get l O[k]) (Em.get l c) = false) := Lib.hid fun k hk h => by
            rcases Nat.lt_or_eq_of_le h with h1 | h1
            · exact hno.out k hk h1
            · subst h1; exact hFO.out.symm
          go_wp2_with fail
          go_roundw
          case rel => exact ⟨⟨(j : Int) - 1, j, rfl, rfl, by omega, hno2⟩, hq4⟩
          case measure => simp [intOf] <;> omega
      · have d0 : decide ((N[s] : Int) ≤ (oj : Int)) = false := decide_eq_false (by omega)
        have d1 : decide (N[s] ≤ oj) = false := decide_eq_false hge
        have hall : Hid (NearV O l c none) := Lib.hid fun i hi => by
          obtain ⟨k, hk, rfl⟩ := List.getElem_of_mem hi
          rcases Nat.lt_or_ge j k with h1 | h1
          · exact hno.out k hk h1
          · refine hN.out _ hi ?_
            rw [← hsd.out, hlfs]
            have : O[k] ≤ O[j] := by
              rcases Nat.lt_or_eq_of_le h1 with h2 | h2
              · exact Nat.le_of_lt (List.pairwise_iff_getElem.1 hs.out k j hk hjO h2)
              · subst h2; exact Nat.le_refl _
            omega
        clear hno hz hN hlfs hoj hge
        generalize N[s] = ns at *
        go_wp2_with fail
        go_quiet (fail)
        go_wp2_with fail
        go_ret2
        exact ⟨none, rfl, hall.out, hstB.out nq, by rw [if_pos rfl, ← hsd.out]; exact hstN.out nq⟩
end Go.Proofs.YtkfhkfagmokjpaaDoor
end

section
namespace Go.Proofs.YtkfhkfagmokjpaaDoor
open Go.RowKit

theorem ppairEI : EI Tryd.prog 69 77 3 24 := EI.mk' Tryd.underlying69 (z := .agg #[.int .i64 0, .int .i64 0, .int .i64 0]) (by kernel_rfl) rfl (by omega)
theorem pintEI : EI Tryd.prog 71 3 1 8 := EI.mk' Tryd.underlying71 (z := .int .i64 0) (by kernel_rfl) rfl (by omega)
theorem cut_int (g n c hi : Nat) {v : Int} (hv : v = (hi : Int)) (h2 : hi ≤ c) (w : World) :
    (Instr.slice 71 (.slice (some ⟨g, 0, none⟩) n c) none (some (.int .i64 v)) none).run Tryd.prog w = .ok (.slice (some ⟨g, 0, none⟩) hi c) w :=
  run_short (by kernel_rfl) 1 (fun w => by kernel_rfl) g n c hi hv h2 w
/-- the struct stays where a row of its own grows -/
theorem PM.atP {B b : Nat} {x : Option Part} {v : Vs} {l : List Em.R} {L O N : List Nat} {P : List (Nat × Nat × Nat)} {w u : World} (h : PM B b x v l L O N P w) (hg : w.grownBy u v.p.ownBlock) : (∀ j, u.frozen? ⟨b, j, none⟩ = false) ∧ u.cell? ⟨b, 4, none⟩ = some v.p := by
  obtain ⟨h1, h2, h3⟩ := Hp.base h (k := 0) rfl
  have h4 : u.heap[b]? = _ := (hg.block b h2 (fun e => by
    have := h.apart 5 0 _ _ b rfl rfl e.symm rfl
    cases this)).trans h3
  exact ⟨blk_free h4, blk_cell h4 4⟩
theorem PM.atO {B b : Nat} {x : Option Part} {v : Vs} {l : List Em.R} {L O N : List Nat} {P : List (Nat × Nat × Nat)} {w u : World} (h : PM B b x v l L O N P w) (hg : w.grownBy u v.o.ownBlock) : (∀ j, u.frozen? ⟨b, j, none⟩ = false) ∧ u.cell? ⟨b, 2, none⟩ = some v.o := by
  obtain ⟨h1, h2, h3⟩ := Hp.base h (k := 0) rfl
  have h4 : u.heap[b]? = _ := (hg.block b h2 (fun e => by
    have := h.apart 3 0 _ _ b rfl rfl e.symm rfl
    cases this)).trans h3
  exact ⟨blk_free h4, blk_cell h4 2⟩
/-- fewer are open -/
theorem PM.cutO {B b : Nat} {x : Option Part} {v : Vs} {l : List Em.R} {L O N : List Nat} {P : List (Nat × Nat × Nat)} {w : World} (h : PM B b x v l L O N P w) {g c : Nat} (hv : v.o = .slice (some ⟨g, 0, none⟩) O.length c) {k : Nat} (hk : k ≤ O.length) :
    PM B b x ⟨v.r, v.l, .slice (some ⟨g, 0, none⟩) k c, v.n, v.p⟩ l L (O.take k) N P (w.setCell ⟨b, 2, none⟩ (.slice (some ⟨g, 0, none⟩) k c)) := by
  have ho := h.rowo
  rw [hv] at ho
  refine h.newO (World.grownBy.refl w _) (own_take ho hk rfl) (fun g' hg' => .inl ?_)
  rw [hv]; exact hg'

set_option maxHeartbeats 8000000 in
set_option maxRecDepth 100000 in
theorem ppair_any {B b : Nat} {x : Option Part} {v : Vs} {l : List Em.R} {L O N : List Nat} {P : List (Nat × Nat × Nat)} {w : World} (hM : PM B b x v l L O N P w) (i c oj s lo lc : Nat) (hi : i < O.length) (hoj : O[i] = oj) (hjL : oj < L.length) (hcL : c < L.length) (hne : oj ≠ c)
    (hlo : L[oj] = lo) (hlc : L[c] = lc) (hlo1 : 1 ≤ lo ∧ lo ≤ 100) (hlc1 : 1 ≤ lc ∧ lc ≤ 100) (hL : L.length ≤ 4000000) (hO : O.length ≤ 4000000) (hP : P.length ≤ 1000000000)
    (d1 : Bool) (d2 : Bool) (hd1 : decide (2 ≤ lo) = d1) (hd2 : decide (2 ≤ lc) = d2) (hs : s = if (d1 && d2) = true then 2 else 1) :
    Calls Tryd.prog 59 #[.pointer (some ⟨b, 0, none⟩), .int .i64 (i : Int), .int .i64 (c : Int)] w fun e w' => e = .returned (.tuple #[]) ∧
      (∃ v', v'.l = v.l ∧ v'.r = v.r ∧ PM B b x v' l ((L.set oj (lo - s)).set c (lc - s)) (Em.pairO O i (lo - s)) N (P ++ [(oj, c, s)]) w') ∧ Below B w w' := by
  have hs2 : 1 ≤ s ∧ s ≤ 2 ∧ s ≤ lo ∧ s ≤ lc ∧ (s : Int) = (if (d1 && d2) = true then 2 else 1) := by
    have h1 : d1 = true → 2 ≤ lo := fun h => of_decide_eq_true (hd1.trans h)
    have h2 : d2 = true → 2 ≤ lc := fun h => of_decide_eq_true (hd2.trans h)
    cases d1 <;> cases d2 <;> simp_all
  obtain ⟨hs0, hs1, hsl, hsc, hsi⟩ := hs2
  have e1 : decide ((2 : Int) ≤ (lo : Int)) = d1 := by rw [← hd1]; exact decide_eq_decide.2 (by omega)
  have e2 : decide ((2 : Int) ≤ (lc : Int)) = d2 := by rw [← hd2]; exact decide_eq_decide.2 (by omega)
  obtain ⟨ro, hro⟩ : ∃ r, r = lo - s := ⟨_, rfl⟩
  obtain ⟨rc, hrc⟩ : ∃ r, r = lc - s := ⟨_, rfl⟩
  obtain ⟨sz, hsz⟩ : ∃ z : Int, z = (s : Int) := ⟨_, rfl⟩
  have hro2 : (lo : Int) - sz = (ro : Int) := by omega
  have hrc2 : (lc : Int) - sz = (rc : Int) := by omega
  have hcase : (d1 = false ∧ sz = 1) ∨ (d1 = true ∧ d2 = false ∧ sz = 1) ∨ (d1 = true ∧ d2 = true ∧ sz = 2) := by
    rw [hsz, hsi]
    cases d1 <;> cases d2 <;> simp
  have hroz : ro ≤ 100 := by omega
  have hrcz : rc ≤ 100 := by omega
  obtain ⟨vr, vl, vo, vn, vp⟩ := v
  obtain ⟨hB, hbw, hfz, m0, m1, m2, m3, m4⟩ := hM.blk
  obtain ⟨gl, cl, hvl, hcl, hBl, hgl⟩ := own_some hM.rowl (by omega)
  obtain ⟨go, co, hvo, hco, hBo, hgo⟩ := own_some hM.rowo (by omega)
  obtain ⟨AP, cp, hvp, hcp⟩ := own_shape hM.rowp
  simp only at hvl hvo hvp m0 m1 m2 m3 m4
  subst hvl hvo hvp
  have hrl := hM.rowl
  have hro' := hM.rowo
  simp only at hrl hro'
  have o0 := own_int hro' hi
  rw [hoj] at o0
  have l0 := own_int hrl hjL
  rw [hlo] at l0
  have l1 := own_int hrl hcL
  rw [hlc] at l1
  have lf := fun j => hrl.frozenAt j
  have hM4 := Lib.hid (fun y : Nat => hM.setL (g := gl) (c := cl) rfl oj y)
  have hM5 := Lib.hid (fun y z : Nat => (hM.setL (g := gl) (c := cl) rfl oj y).setL (g := gl) (c := cl) (by rw [List.length_set]) c z)
  have hB4 := Lib.hid (fun y : Value => (Below.refl B w).setCell (p := ⟨gl, oj, none⟩) hBl y)
  replace hrl := Lib.hid hrl
  replace hro' := Lib.hid hro'
  replace hs := Lib.hid hs
  replace hro := Lib.hid hro
  replace hrc := Lib.hid hrc
  replace hsz := Lib.hid hsz
  replace hlo := Lib.hid hlo
  replace hlc := Lib.hid hlc
  replace hoj := Lib.hid hoj
  clear hM
  have hlob : (lo : Int) ≤ 100 := by omega
  have hlcb : (lc : Int) ≤ 100 := by omega
  have hzero : Hid (Em.pairO O i (lo - s) = if ro = 0 then O.take i else O.take (i + 1)) := Lib.hid (by rw [← hro.out]; rfl)
  have hpair : Hid (Em.pairO O i (lo - s) = if ro = 0 then O.take i else O.take (i + 1)) := hzero
  clear m0 m3 hd1 hd2 hs0 hsl hsc hsi hs1 hzero hs
  replace hpair := hpair
  rcases hcase with ⟨rfl, rfl⟩ | ⟨rfl, rfl, rfl⟩ | ⟨rfl, rfl, rfl⟩
  all_goals
    go_enter Tryd.func59, Tryd.ntmps59
    go_upto_region 5 with fail
    generalize hw4 : World.setCell w _ _ = w4
    have hM4' : PM B b x ⟨vr, .slice (some ⟨gl, 0, none⟩) L.length cl, .slice (some ⟨go, 0, none⟩) O.length co, vn, .slice AP P.length cp⟩ l (L.set oj ro) O N P w4 := by rw [← hw4]; exact hM4.out ro
    have hB4' : Below B w w4 := by rw [← hw4]; exact hB4.out _
    obtain ⟨_, hbw4, hfz4, _, m1', _, _, _⟩ := hM4'.blk
    have hrl4 := hM4'.rowl
    simp only [List.length_set] at m1' hrl4
    have l1' := own_int hrl4 (k := c) (by rw [List.length_set]; exact hcL)
    rw [List.getElem_set_ne hne, hlc.out] at l1'
    have lf' := fun j => hrl4.frozenAt j
    have hgl4 : gl < w4.heap.size := Nat.lt_of_lt_of_le hgl hB4'.size
    have hM5' := Lib.hid (hM4'.setL (g := gl) (c := cl) (by rw [List.length_set]) c rc)
    replace hB4' := Lib.hid hB4'
    replace hM4' := Lib.hid hM4'
    clear hw4 m1 m2 m4 o0 l0 l1 lf hM4 hM5 hrl4 hfz
    go_upto_region 6 with fail
    generalize hw5 : World.setCell w4 _ _ = w5
    have hM5 : PM B b x ⟨vr, .slice (some ⟨gl, 0, none⟩) L.length cl, .slice (some ⟨go, 0, none⟩) O.length co, vn, .slice AP P.length cp⟩ l ((L.set oj ro).set c rc) O N P w5 := by rw [← hw5]; exact hM5'.out
    have hB5 : Below B w w5 := by rw [← hw5]; exact hB4'.out.setCell (p := ⟨gl, c, none⟩) hBl _
    clear hw5 hM5' hB4' hM4' m1' l1' lf' hfz4 hbw4 hgl4
    obtain ⟨L2, hL2⟩ : ∃ L2, L2 = (L.set oj ro).set c rc := ⟨_, rfl⟩
    have hL2l : L2.length = L.length := by rw [hL2, List.length_set, List.length_set]
    have hL2o : L2[oj]'(by omega) = ro := by subst hL2; rw [List.getElem_set_ne (Ne.symm hne), List.getElem_set_self]
    rw [← hL2] at hM5
    obtain ⟨_, hbw5, hfz5, _, m1, m2, _, m4⟩ := hM5.blk
    simp only at m1 m2 m4
    have hBw5 := hB5.size
    replace hM5 := Lib.hid hM5
    replace hB5 := Lib.hid hB5
    replace hL2 := Lib.hid hL2
    replace hL2o := Lib.hid hL2o
    go_upto_region 7 with (at_builtin; refine wpList_app_two rfl (.tmp 57) (.tmp 62) rfl ppairEI rfl hM5.out.rowp rfl (by simp) rfl (by intro u hu; simp at hu; rcases hu with rfl | rfl | rfl <;> rfl) (by omega) (by omega) (by omega) ?_; intro vp7 w7 ho7 hg7 hb7 hat7; obtain ⟨A7, c7, rfl, hc7⟩ := own_shape ho7; obtain ⟨hfz7, m47⟩ := hM5.out.atP hg7.out; have hbw7 : b < w7.heap.size := Nat.lt_of_lt_of_le hbw5 hb7.size)
    generalize hw8 : World.setCell w7 _ _ = w8
    have hM8 : PM B b x ⟨vr, .slice (some ⟨gl, 0, none⟩) L.length cl, .slice (some ⟨go, 0, none⟩) O.length co, vn, .slice A7 (P.length + 1) c7⟩ l L2 O N (P ++ [(oj, c, s)]) w8 := by
      rw [← hw8]
      exact hM5.out.newP hg7.out (by simpa [pcells, pcell, ← hsz.out] using ho7) hat7.out
    have hB8 : Below B w w8 := by rw [← hw8]; exact (hB5.out.trans hb7).setCell (p := ⟨b, 4, none⟩) hB _
    clear hw8 hM5 hB5 ho7 hg7 hb7 hat7 hfz7 m47 hbw7 hfz5 m1 m2 m4 hbw5 hBw5
    obtain ⟨_, hbw8, hfz8, _, m1, m2, _, m4⟩ := hM8.blk
    simp only at m1 m2 m4
    have hcut := cut_int go O.length co (i + 1) (v := (i : Int) + 1) rfl (by omega)
    have hM9' := Lib.hid (hM8.cutO (g := go) (c := co) rfl (k := i + 1) (by omega))
    replace hM8 := Lib.hid hM8
    replace hB8 := Lib.hid hB8
    go_upto_region 8 with fail
    generalize hw9 : World.setCell w8 _ _ = w9
    have hM9 : PM B b x ⟨vr, .slice (some ⟨gl, 0, none⟩) L.length cl, .slice (some ⟨go, 0, none⟩) (i + 1) co, vn, .slice A7 (P.length + 1) c7⟩ l L2 (O.take (i + 1)) N (P ++ [(oj, c, s)]) w9 := by rw [← hw9]; exact hM9'.out
    have hB9 : Below B w w9 := by rw [← hw9]; exact hB8.out.setCell (p := ⟨b, 2, none⟩) hB _
    clear hw9 hM9' hM8 hB8 hfz8 m1 m2 m4 hbw8 hcut
    obtain ⟨_, hbw9, hfz9, _, m1, m2, _, m4⟩ := hM9.blk
    have hrl9 := hM9.rowl
    simp only [hL2l] at m1 m2 m4 hrl9
    have l9 := own_int hrl9 (k := oj) (by omega)
    rw [hL2o.out] at l9
    have hcut := cut_int go (i + 1) co i (v := (i : Int)) rfl (by omega)
    have hlen : (O.take (i + 1)).length = i + 1 := by rw [List.length_take]; omega
    have htt : (O.take (i + 1)).take i = O.take i := by rw [List.take_take]; congr 1; omega
    have hM10' := Lib.hid (hM9.cutO (g := go) (c := co) (by rw [hlen]) (k := i) (by omega))
    rw [htt] at hM10'
    have hgl9 : gl < w9.heap.size := Nat.lt_of_lt_of_le hgl hB9.size
    have hB10' := Lib.hid (hB9.setCell (p := ⟨b, 2, none⟩) hB (.slice (some ⟨go, 0, none⟩) i co))
    replace hM9 := Lib.hid hM9
    replace hB9 := Lib.hid hB9
    replace hlen := Lib.hid hlen
    replace htt := Lib.hid htt
    replace hrl9 := Lib.hid hrl9
    rw [hL2.out, hro.out, hrc.out] at hM9
    rw [hL2.out, hro.out, hrc.out] at hM10'
    rcases Nat.eq_zero_or_pos ro with hz | hz
    · have t0 : ((ro : Int) == 0) = true := by simpa using hz
      have hO2 : Hid (Em.pairO O i (lo - s) = O.take i) := Lib.hid (by rw [hpair.out, if_pos hz])
      clear hz
      go_wp2_with fail
      go_returns
      exact ⟨rfl, ⟨_, rfl, rfl, by rw [hO2.out]; exact hM10'.out⟩, hB10'.out⟩
    · have t0 : ((ro : Int) == 0) = false := by
        rw [beq_eq_false_iff_ne]; omega
      have hO2 : Hid (Em.pairO O i (lo - s) = O.take (i + 1)) := Lib.hid (by rw [hpair.out, if_neg (by omega)])
      clear hz
      go_wp2_with fail
      go_returns
      exact ⟨rfl, ⟨_, rfl, rfl, by rw [hO2.out]; exact hM9.out⟩, hB9.out⟩
end Go.Proofs.YtkfhkfagmokjpaaDoor
end

section
namespace Go.Proofs.YtkfhkfagmokjpaaDoor
open Go.RowKit

/-- while one run is closed -/
def CloseAt (B b : Nat) (x : Option Part) (l : List Em.R) (c gl cl : Nat) (fin : Em.St) (r0 : Value) (w wr : World) : Prop :=
  ∃ (v : Vs) (st : Em.St) (L O N : List Nat), Hid (v.r = r0) ∧ Hid (v.l = .slice (some ⟨gl, 0, none⟩) l.length cl) ∧ Hid (PM B b x v l L O N st.2 wr) ∧ Hid (Em.SimI l c st L O N) ∧ Hid (Em.inner l c st = fin) ∧ Hid (Below B w wr)

set_option maxHeartbeats 8000000 in
set_option maxRecDepth 100000 in
theorem pclose_any {B b : Nat} {x : Option Part} {v : Vs} {l : List Em.R} {L O N : List Nat} {w : World} (c : Nat) (st : Em.St) (hM : PM B b x v l L O N st.2 w) (hS : Em.SimI l c st L O N) (hc : c < l.length) (hl : l.length ≤ 4000000) (hH : Em.Held l) (hcc : (Em.get l c).c = true) :
    Calls Tryd.prog 42 #[.pointer (some ⟨b, 0, none⟩), .int .i64 (c : Int)] w fun e w' => e = .returned (.tuple #[]) ∧
      (∃ v', v'.r = v.r ∧ ∃ L' O' N', PM B b x v' l L' O' N' (Em.inner l c st).2 w' ∧ Em.SimI l c (Em.inner l c st) L' O' N') ∧ Below B w w' := by
  obtain ⟨gl, cl, hvl, hcl, hBl, hgl⟩ := own_some hM.rowl (by rw [hS.1.len]; omega)
  rw [hS.1.len] at hvl
  obtain ⟨fin, hfin⟩ : ∃ fin, fin = Em.inner l c st := ⟨_, rfl⟩
  rw [← hfin]
  obtain ⟨r0, hr0⟩ : ∃ r0, v.r = r0 := ⟨_, rfl⟩
  rw [hr0]
  have hIn : CloseAt B b x l c gl cl fin r0 w w := ⟨v, st, L, O, N, Lib.hid hr0, Lib.hid hvl, Lib.hid hM, Lib.hid hS, Lib.hid hfin.symm, Lib.hid (Below.refl _ _)⟩
  have hH0 := Lib.hid hH
  have hcc0 := Lib.hid hcc
  clear hM hS hfin hvl hH hcc hgl hr0
  go_enter Tryd.func42, Tryd.ntmps42
  go_wp2_with fail
  go_loopw [] (fun wr => CloseAt B b x l c gl cl fin r0 w wr) (fun wr => match wr.cell? ⟨gl, c, none⟩ with | some (.int _ n) => n.toNat | _ => 0)
  case atStart => exact hIn
  case round =>
    obtain ⟨v, st, L, O, N, hvr, hvl, hM, hS, hfi, hBw⟩ := hrel
    clear hIn
    have hLl := hS.out.1.len
    have hcL : c < L.length := by omega
    obtain ⟨hB, hbw, hfz, _, m1, _, _, _⟩ := hM.out.blk
    have hrl := hM.out.rowl
    rw [hvl.out] at m1 hrl
    rw [hLl] at hrl
    have hgl := (hrl.lt _ rfl).2
    have l0 := own_int hrl hcL
    obtain ⟨lc, hlc⟩ : ∃ n, n = L[c] := ⟨_, rfl⟩
    rw [← hlc] at l0
    have hlfc : Em.lf L c = lc := by rw [Em.lf_at hcL, hlc]
    have hlst : Em.lf st.1 c = lc := by rw [← hS.out.2, hlfc]
    have hbd := hS.out.1.bd c
    have hfew := hS.out.1.few
    have hOf := hS.out.1.open_few
    replace hlc := Lib.hid hlc
    replace hlfc := Lib.hid hlfc
    replace hlst := Lib.hid hlst
    replace hrl := Lib.hid hrl
    rw [hlst.out] at hbd hfew
    rcases Nat.eq_zero_or_pos lc with hz | hz
    · subst hz
      have hstop : Hid (Em.inner l c st = st) := Lib.hid (Em.inner_stop (by rw [hlst.out]; omega))
      have hfi2 : Hid (st = fin) := Lib.hid (hstop.out.symm.trans hfi.out)
      clear hfi hstop hfew
      go_wp2_with fail
      go_returns
      exact ⟨rfl, ⟨v, hvr.out, L, O, N, by rw [← hfi2.out]; exact hM.out, by rw [← hfi2.out]; exact hS.out⟩, hBw.out⟩
    · have t0 : decide ((0 : Int) < (lc : Int)) = true := decide_eq_true (by omega)
      have hmeas : Hid ((match wr.cell? ⟨gl, c, none⟩ with | some (.int _ n) => n.toNat | _ => 0) = lc) := Lib.hid (by rw [l0]; simp)
      have q := pnearest_any hM.out c hc hl hH0.out (by omega) (fun j hj => (hS.out.1.open_lt hj).2) hS.out.1.sorted hS.out.1.nlen (fun j hj h => hS.out.1.none _ j hj h)
      clear hrl
      go_wp2_with fail
      refine q.mono ?_
      rintro e w2 ⟨r, rfl, hr, hb2, hM2⟩
      replace hr := Lib.hid hr
      replace hM2 := Lib.hid hM2
      have hBw2 := Lib.hid (hBw.out.trans hb2)
      clear q hb2 m1 l0 hfz hbw
      cases r with
      | none =>
        have hstop : Hid (Em.inner l c st = st) := Lib.hid (Em.sim_stop hH0.out hS.out hcc0.out hr.out)
        have hfi2 : Hid (st = fin) := Lib.hid (hstop.out.symm.trans hfi.out)
        have hS2 := Lib.hid (Em.sim_none hS.out hr.out)
        have hM3 : Hid (PM B b x v l L O (N.set (Em.sortN (Em.get l c)) c) st.2 w2) := Lib.hid (by have := hM2.out; rwa [if_pos rfl] at this)
        clear hfi hstop hM2
        unfold nearV
        go_wp2_with fail
        go_returns
        exact ⟨rfl, ⟨v, hvr.out, L, O, _, by rw [← hfi2.out]; exact hM3.out, by rw [← hfi2.out]; exact hS2.out⟩, hBw2.out⟩
      | some i =>
        obtain ⟨hi, hf, hn⟩ := hr.out
        have hfound := Em.sim_found hH0.out hS.out hcc0.out hi hf hn
        have hmem := List.getElem_mem hi
        have hlt := hS.out.1.open_lt hmem
        have hm := (hS.out.1.mem _).1 hmem
        have hleft := hS.out.1.left _ hmem
        have hstep := Em.inner_step hcc0.out (by rw [hlst.out]; exact hz) hfound
        have hS3 := Em.sim_pair hS.out hc (by rw [hlst.out]; exact hz) hi rfl
        have hbdo := hS.out.1.bd O[i]
        have hM3 : PM B b x v l L O N st.2 w2 := by have := hM2.out; rwa [if_neg (by simp)] at this
        have hsz : Em.size st.1 O[i] c = if (decide (2 ≤ Em.lf L O[i]) && decide (2 ≤ lc)) = true then 2 else 1 := by
          unfold Em.size
          rw [hleft, hlst.out]
          by_cases h1 : 1 < Em.lf st.1 O[i] ∧ 1 < lc
          · rw [if_pos h1, if_pos (by rw [Bool.and_eq_true]; exact ⟨decide_eq_true h1.1, decide_eq_true h1.2⟩)]
          · rw [if_neg h1, if_neg]
            rw [Bool.and_eq_true]
            rintro ⟨h2, h3⟩
            exact h1 ⟨of_decide_eq_true h2, of_decide_eq_true h3⟩
        have q2 := ppair_any hM3 i c O[i] (Em.size st.1 O[i] c) (Em.lf L O[i]) lc hi rfl (by omega) hcL (by omega) (by rw [Em.lf_at (by omega)]) (hlc.out.symm) (by rw [hleft]; omega) (by omega) (by omega) (by omega) (by omega) _ _ rfl rfl hsz
        have hsp := Em.size_pos st.1 O[i] c
        rw [hstep] at hfi
        obtain ⟨sz, hszd⟩ : ∃ s, s = Em.size st.1 O[i] c := ⟨_, rfl⟩
        rw [← hszd] at q2 hS3 hfi hsp
        obtain ⟨oj, hoj⟩ : ∃ o, o = O[i] := ⟨_, rfl⟩
        rw [← hoj] at q2 hS3 hfi hlt
        replace hS3 := Lib.hid hS3
        clear hstep hfound hf hn hr hM2 hM3 hm hleft hbdo hmem hoj hszd hsz
        unfold nearV
        go_wp2_with fail
        refine q2.mono ?_
        rintro e w3 ⟨rfl, ⟨v3, hv3, hr3, hM4⟩, hb3⟩
        have hrl3 := hM4.rowl
        rw [hv3, hvl.out] at hrl3
        simp only [List.length_set, hLl] at hrl3
        have hpl : Em.pairL L oj c sz = (L.set oj (Em.lf L oj - sz)).set c (lc - sz) := by unfold Em.pairL; rw [hlfc.out]
        have l3 := own_int hrl3 (k := c) (by rw [List.length_set, List.length_set]; exact hcL)
        rw [List.getElem_set_self] at l3
        have hfin3 : Hid (CloseAt B b x l c gl cl fin r0 w w3) := Lib.hid ⟨v3, _, _, _, N, Lib.hid (hr3.trans hvr.out), Lib.hid (hv3.trans hvl.out), Lib.hid hM4, Lib.hid (by rw [← hpl]; exact hS3.out), hfi, Lib.hid (hBw2.out.trans hb3)⟩
        replace l3 := Lib.hid l3
        clear q2 hS3 hM4 hb3 hrl3 hpl hv3 hr3 hfi hM hS
        go_wp2_with fail
        go_roundw
        case rel => exact hfin3.out
        case measure => rw [hmeas.out, l3.out]; simp; omega
end Go.Proofs.YtkfhkfagmokjpaaDoor
end

section
namespace Go.Proofs.YtkfhkfagmokjpaaDoor
open Go.RowKit
attribute [local go_sem] canOp readsAs readUpon

section
variable {P : Program} {ops : Array Oper} {Q : Exit → Act → World → Prop}
theorem held_node {fuel : Nat} {listed : Array Bool} {a : Act} {w : World} (is : List Nat) (hr : Region.ready .any ops listed = is) (hne : is ≠ [])
    (h : ∀ i ∈ is, wpOp P ops Q i (fun a' w' => True ∧ wpAnyH P .any ops Q (fun _ => True) fuel (listed.setIfInBounds i true) a' w') a w) : wpAnyH P .any ops Q (fun _ => True) (fuel + 1) listed a w :=
  wpAnyH_all hr hne h
theorem held_op {fuel i : Nat} {listed : Array Bool} {a : Act} {w : World} {o : Oper} (ho : ops[i]? = some o) (hg : o.guard = none)
    (h : ∀ K : Act → World → Prop, (∀ a' w', wpAnyH P .any ops Q (fun _ => True) fuel (listed.setIfInBounds i true) a' w' → K a' w') → o.wp P a w K Q) :
    wpOp P ops Q i (fun a' w' => True ∧ wpAnyH P .any ops Q (fun _ => True) fuel (listed.setIfInBounds i true) a' w') a w := by
  unfold wpOp
  simp only [ho]
  rw [if_pos (by simp [Region.wanted, hg])]
  exact .inl (h _ fun _ _ hh => ⟨trivial, hh⟩)
theorem held_rd {fuel i : Nat} {listed : Array Bool} {a : Act} {w : World} {o : Oper} (v : Value) (ho : ops[i]? = some o) (hg : o.guard = none) (hs : Region.noSelect ops = true) (h1 : (Region.ready .any ops listed).contains i = true) (h2 : Region.free .any ops listed i = true)
    (hQ : ∀ c a d v w, Q (.panic c) (Act.put a d v) w → Q (.panic c) a w) (hv : ∀ w', (execOp a.eval o).run P w' = .ok (.value v) w') (k : wpAnyH P .any ops Q (fun _ => True) fuel (listed.setIfInBounds i true) (a.put o.dst v) w) :
    wpAnyH P .any ops Q (fun _ => True) (fuel + 1) listed a w :=
  wpAnyH_take ho hs h2 h1 (fun c a w => hQ c a o.dst v w) (.inl ⟨by simp [Region.wanted, hg], fun w' _ => hv w'⟩) trivial k
end

noncomputable def mops : Array Oper := match regionAt Tryd.f26 1 with | .region _ ops _ => ops | _ => #[]
def mk4 (o0 o1 o2 o4 : Option Part) : Nat → Option Part
  | 0 => o0
  | 1 => o1
  | 2 => o2
  | 4 => o4
  | _ => none
theorem mk4_ne {o0 o1 o2 o4 p0 p1 p2 p4 : Option Part} (h0 : o0 = p0) (h1 : o1 = p1) (h2 : o2 = p2) (h4 : o4 = p4) (j : Nat) : mk4 o0 o1 o2 o4 j = mk4 p0 p1 p2 p4 j := by subst h0 h1 h2 h4; rfl
theorem mk4_none (w : World) (B : Nat) : Hp w B (mk4 none none none none) := by
  have h : ∀ (k : Nat) (a : Part), mk4 none none none none k ≠ some a := by
    intro k a h
    match k with
    | 0 | 1 | 2 | 3 | 4 => cases h
    | _ + 5 => cases h
  exact ⟨fun k a ha => absurd ha (h k a), fun k k' a a' g h1 => absurd h1 (h k a)⟩
theorem zeros_int (n : Nat) : (madeCells #[.int .i64 0] (n * 1)).toList = lcells (List.replicate n 0) := by
  rw [Nat.mul_one, Go.toList_madeCells_one, lcells, List.map_replicate]; rfl
abbrev mzero : Array Value := #[.slice none 0 0, .slice none 0 0, .slice none 0 0, .slice none 0 0, .slice none 0 0]
abbrev prow (l : List Em.R) (v : Value) : Option Part := some (.row 75 4 v l.length (acells (Em.hold l)))
abbrev lrow (n : Nat) (v : Value) : Option Part := some (.row 3 1 v n (lcells (List.replicate n 0)))
abbrev mblk (b : Nat) : Option Part := some (.blk b mzero 93)
/-- all is made -/
theorem mk4_pm {l : List Em.R} {B b : Nat} {vr vl vn : Value} {w : World} (h : Hp w B (mk4 (mblk b) (prow l vr) (lrow l.length vl) (lrow 1536 vn))) :
    PM B b none ⟨vr, vl, .slice none 0 0, vn, .slice none 0 0⟩ (Em.hold l) (List.replicate l.length 0) [] (List.replicate 1536 0) []
      (((((w.setCell ⟨b, 0, none⟩ vr).setCell ⟨b, 1, none⟩ vl).setCell ⟨b, 2, none⟩ (.slice none 0 0)).setCell ⟨b, 3, none⟩ vn).setCell ⟨b, 4, none⟩ (.slice none 0 0)) := by
  have e1 : (Em.hold l).length = l.length := by simp [Em.hold]
  have h3 : Hp w B (pmm b mzero none (Em.hold l) vr (List.replicate l.length 0) vl [] (.slice none 0 0) (List.replicate 1536 0) vn [] (.slice none 0 0)) := by
    refine ⟨fun k a ha => ?_, fun k k' a a' g h1 h2 hg hg' => ?_⟩
    · match k with
      | 0 => exact h.holds 0 a ha
      | 1 => exact h.holds 1 a (by simpa only [pmm, mk4, e1] using ha)
      | 2 => exact h.holds 2 a (by simpa only [pmm, mk4, List.length_replicate] using ha)
      | 4 => exact h.holds 4 a (by simpa only [pmm, mk4, List.length_replicate] using ha)
      | 3 => cases ha; exact World.ownsRow_nil _ _ _ _
      | 5 => cases ha; exact World.ownsRow_nil _ _ _ _
      | 6 => cases ha
      | _ + 7 => cases ha
    · have key : ∀ (k : Nat) (a : Part) (g : Nat), pmm b mzero none (Em.hold l) vr (List.replicate l.length 0) vl [] (.slice none 0 0) (List.replicate 1536 0) vn [] (.slice none 0 0) k = some a → a.block = some g → mk4 (mblk b) (prow l vr) (lrow l.length vl) (lrow 1536 vn) k = some a := by
        intro k a g ha hb
        match k with
        | 0 => exact ha
        | 1 => simpa only [pmm, mk4, e1] using ha
        | 2 => simpa only [pmm, mk4, List.length_replicate] using ha
        | 4 => simpa only [pmm, mk4, List.length_replicate] using ha
        | 3 => cases ha; simp [Part.block, Value.ownBlock] at hb
        | 5 => cases ha; simp [Part.block, Value.ownBlock] at hb
        | 6 => cases ha
        | _ + 7 => cases ha
      exact h.apart k k' a a' g (key k a g h1 hg) (key k' a' g h2 hg') hg hg'
  have st : ∀ (w : World) (cs : Array Value) (j : Nat) (v : Value), Hp w B (pmm b cs none (Em.hold l) vr (List.replicate l.length 0) vl [] (.slice none 0 0) (List.replicate 1536 0) vn [] (.slice none 0 0)) →
      Hp (w.setCell ⟨b, j, none⟩ v) B (pmm b (cs.setIfInBounds j v) none (Em.hold l) vr (List.replicate l.length 0) vl [] (.slice none 0 0) (List.replicate 1536 0) vn [] (.slice none 0 0)) := by
    intro w cs j v h
    refine Hp.store (k := 0) (cs := cs) (t := 93) h rfl ?_ rfl
    intro j hj
    match j with
    | 0 => exact absurd rfl hj
    | 1 | 2 | 3 | 4 | 5 | 6 => rfl
    | _ + 7 => rfl
  exact st _ _ 4 _ (st _ _ 3 _ (st _ _ 2 _ (st _ _ 1 _ (st _ _ 0 _ h3))))
/-- what is asked behind the beginning -/
def StartQ (l : List Em.R) (A : Option Addr) (c : Nat) (w0 : World) (Q : Exit → Act → World → Prop) : Prop :=
  ∀ (b : Nat) (v : Vs) (v12 : Value) (wq : World), PM w0.heap.size b none v (Em.hold l) (List.replicate l.length 0) [] (List.replicate 1536 0) [] wq → Below w0.heap.size w0 wq → Q .normal ⟨(.slice A l.length c :: undef :: .slice none 0 0 :: .pointer (some ⟨b, 0, none⟩) :: undef :: undef :: .slice A l.length c :: v.r :: .slice A l.length c :: .int .i64 (l.length : Int) :: v.l :: v.n :: v12 :: undef :: undef :: undef :: undef :: undef :: undef :: undef :: undef :: undef :: undef :: undef :: undef :: undef :: undef :: undef :: undef :: undef :: undef :: undef :: undef :: undef :: undef :: undef :: undef :: undef :: undef :: undef :: undef :: undef :: undef :: undef :: undef :: undef :: undef :: undef :: undef :: undef :: []).toArray, []⟩ wq
abbrev PanQ (Q : Exit → Act → World → Prop) : Prop := ∀ c a d v w, Q (.panic c) (Act.put a d v) w → Q (.panic c) a w

set_option maxHeartbeats 2000000 in
set_option maxRecDepth 100000 in
theorem nd_1111s {l : List Em.R} {A : Option Addr} {c : Nat} {w0 w : World} {Q : Exit → Act → World → Prop} {vr : Value} {vl : Value} {vn : Value} {b : Nat} (_hpan : PanQ Q) (hq : StartQ l A c w0 Q) (_hR : Row w0 w0.heap.size 4 A l.length (acells l)) (_hl : l.length ≤ 4000000) (hb : Below w0.heap.size w0 w)
    (hH : Hp w w0.heap.size (mk4 (mblk b) (prow l vr) (lrow l.length vl) (lrow 1536 vn))) : wpAnyH Tryd.prog .any mops Q (fun _ => True) 1 #[true, true, true, true, true, true, true, true, false] ⟨(.slice A l.length c :: undef :: .slice none 0 0 :: .pointer (some ⟨b, 0, none⟩) :: undef :: undef :: .slice A l.length c :: vr :: .slice A l.length c :: .int .i64 (l.length : Int) :: vl :: vn :: (.agg #[vr, vl, .slice none 0 0, vn, .slice none 0 0]) :: undef :: undef :: undef :: undef :: undef :: undef :: undef :: undef :: undef :: undef :: undef :: undef :: undef :: undef :: undef :: undef :: undef :: undef :: undef :: undef :: undef :: undef :: undef :: undef :: undef :: undef :: undef :: undef :: undef :: undef :: undef :: undef :: undef :: undef :: undef :: undef :: undef :: []).toArray, []⟩ w := by
  replace hq := Lib.hid hq
  obtain ⟨A1, c1, rfl, _⟩ := own_shape (Hp.own hH (k := 1) rfl)
  obtain ⟨A2, c2, rfl, _⟩ := own_shape (Hp.own hH (k := 2) rfl)
  obtain ⟨A4, c4, rfl, _⟩ := own_shape (Hp.own hH (k := 4) rfl)
  obtain ⟨hB, hbw, hblk⟩ := Hp.base hH (k := 0) rfl
  have z0 := blk_cell hblk 0
  have z1 := blk_cell hblk 1
  have z2 := blk_cell hblk 2
  have z3 := blk_cell hblk 3
  have z4 := blk_cell hblk 4
  have hfz := blk_free hblk
  have hP := Lib.hid (mk4_pm hH)
  have hB2 := Lib.hid (((((hb.setCell (p := ⟨b, 0, none⟩) hB (.slice A1 l.length c1)).setCell (p := ⟨b, 1, none⟩) hB (.slice A2 l.length c2)).setCell (p := ⟨b, 2, none⟩) hB (.slice none 0 0)).setCell (p := ⟨b, 3, none⟩) hB (.slice A4 1536 c4)).setCell (p := ⟨b, 4, none⟩) hB (.slice none 0 0))
  clear hblk hH
  refine held_node [8] (by kernel_rfl) (by simp) ?_
  intro i hi
  obtain rfl : i = 8 := by simpa using hi
  refine held_op (o := ⟨none, .store 93 (.tmp 3) (.tmp 12), _, _, _, none⟩) rfl rfl ?_
  intro K hK
  go_simp
  refine hK _ _ (wpAnyH_done (by kernel_rfl) ?_ _)
  exact hq.out b ⟨_, _, _, _, _⟩ _ _ hP.out hB2.out

set_option maxHeartbeats 2000000 in
set_option maxRecDepth 100000 in
theorem nd_1111 {l : List Em.R} {A : Option Addr} {c : Nat} {w0 w : World} {Q : Exit → Act → World → Prop} {vr : Value} {vl : Value} {vn : Value} {b : Nat} (hpan : PanQ Q) (hq : StartQ l A c w0 Q) (hR : Row w0 w0.heap.size 4 A l.length (acells l)) (hl : l.length ≤ 4000000) (hb : Below w0.heap.size w0 w)
    (hH : Hp w w0.heap.size (mk4 (mblk b) (prow l vr) (lrow l.length vl) (lrow 1536 vn))) : wpAnyH Tryd.prog .any mops Q (fun _ => True) 2 #[true, true, true, true, true, true, false, true, false] ⟨(.slice A l.length c :: undef :: .slice none 0 0 :: .pointer (some ⟨b, 0, none⟩) :: undef :: undef :: .slice A l.length c :: vr :: .slice A l.length c :: .int .i64 (l.length : Int) :: vl :: vn :: undef :: undef :: undef :: undef :: undef :: undef :: undef :: undef :: undef :: undef :: undef :: undef :: undef :: undef :: undef :: undef :: undef :: undef :: undef :: undef :: undef :: undef :: undef :: undef :: undef :: undef :: undef :: undef :: undef :: undef :: undef :: undef :: undef :: undef :: undef :: undef :: undef :: undef :: []).toArray, []⟩ w := by
  obtain ⟨A1, c1, rfl, _⟩ := own_shape (Hp.own hH (k := 1) rfl)
  obtain ⟨A2, c2, rfl, _⟩ := own_shape (Hp.own hH (k := 2) rfl)
  obtain ⟨A4, c4, rfl, _⟩ := own_shape (Hp.own hH (k := 4) rfl)
  refine held_rd (i := 6) (o := ⟨some 12, .build 93 #[(0, .tmp 7), (1, .tmp 10), (3, .tmp 11)], _, _, _, none⟩) (.agg #[.slice A1 l.length c1, .slice A2 l.length c2, .slice none 0 0, .slice A4 1536 c4, .slice none 0 0]) rfl rfl (by kernel_rfl) (by kernel_rfl) (by kernel_rfl) hpan (fun w' => by go_simp) ?_
  exact nd_1111s hpan hq hR hl hb hH

set_option maxHeartbeats 2000000 in
set_option maxRecDepth 100000 in
theorem nd_1110s {l : List Em.R} {A : Option Addr} {c : Nat} {w0 w : World} {Q : Exit → Act → World → Prop} {vr : Value} {vl : Value} {vn : Value} (hpan : PanQ Q) (hq : StartQ l A c w0 Q) (hR : Row w0 w0.heap.size 4 A l.length (acells l)) (hl : l.length ≤ 4000000) (hb : Below w0.heap.size w0 w)
    (hH : Hp w w0.heap.size (mk4 none (prow l vr) (lrow l.length vl) (lrow 1536 vn))) : wpAnyH Tryd.prog .any mops Q (fun _ => True) 2 #[true, true, true, true, true, true, true, false, false] ⟨(.slice A l.length c :: undef :: .slice none 0 0 :: undef :: undef :: undef :: .slice A l.length c :: vr :: .slice A l.length c :: .int .i64 (l.length : Int) :: vl :: vn :: (.agg #[vr, vl, .slice none 0 0, vn, .slice none 0 0]) :: undef :: undef :: undef :: undef :: undef :: undef :: undef :: undef :: undef :: undef :: undef :: undef :: undef :: undef :: undef :: undef :: undef :: undef :: undef :: undef :: undef :: undef :: undef :: undef :: undef :: undef :: undef :: undef :: undef :: undef :: undef :: undef :: undef :: undef :: undef :: undef :: undef :: []).toArray, []⟩ w := by
  refine held_node [7] (by kernel_rfl) (by simp) ?_
  intro i hi
  obtain rfl : i = 7 := by simpa using hi
  · refine held_op (o := ⟨some 3, .alloc 93, _, _, _, none⟩) rfl rfl ?_
    intro K hK
    go_simp
    refine hK _ _ (nd_1111s hpan hq hR hl (hb.alloc hb.size _) ?_)
    exact Hp.more (k := 0) hH (a' := .blk w.heap.size mzero 93) rfl (ext_alloc w _) ⟨hb.size, heap_alloc_new w _⟩ (fun g hg => by have e : w.heap.size = g := Option.some.inj hg; omega) (fun j hj => by match j with | 0 => exact absurd rfl hj | 1 | 2 | 3 | 4 | 5 | 6 => rfl | _ + 7 => rfl) rfl

set_option maxHeartbeats 2000000 in
set_option maxRecDepth 100000 in
theorem nd_1110 {l : List Em.R} {A : Option Addr} {c : Nat} {w0 w : World} {Q : Exit → Act → World → Prop} {vr : Value} {vl : Value} {vn : Value} (hpan : PanQ Q) (hq : StartQ l A c w0 Q) (hR : Row w0 w0.heap.size 4 A l.length (acells l)) (hl : l.length ≤ 4000000) (hb : Below w0.heap.size w0 w)
    (hH : Hp w w0.heap.size (mk4 none (prow l vr) (lrow l.length vl) (lrow 1536 vn))) : wpAnyH Tryd.prog .any mops Q (fun _ => True) 3 #[true, true, true, true, true, true, false, false, false] ⟨(.slice A l.length c :: undef :: .slice none 0 0 :: undef :: undef :: undef :: .slice A l.length c :: vr :: .slice A l.length c :: .int .i64 (l.length : Int) :: vl :: vn :: undef :: undef :: undef :: undef :: undef :: undef :: undef :: undef :: undef :: undef :: undef :: undef :: undef :: undef :: undef :: undef :: undef :: undef :: undef :: undef :: undef :: undef :: undef :: undef :: undef :: undef :: undef :: undef :: undef :: undef :: undef :: undef :: undef :: undef :: undef :: undef :: undef :: undef :: []).toArray, []⟩ w := by
  obtain ⟨A1, c1, rfl, _⟩ := own_shape (Hp.own hH (k := 1) rfl)
  obtain ⟨A2, c2, rfl, _⟩ := own_shape (Hp.own hH (k := 2) rfl)
  obtain ⟨A4, c4, rfl, _⟩ := own_shape (Hp.own hH (k := 4) rfl)
  refine held_rd (i := 6) (o := ⟨some 12, .build 93 #[(0, .tmp 7), (1, .tmp 10), (3, .tmp 11)], _, _, _, none⟩) (.agg #[.slice A1 l.length c1, .slice A2 l.length c2, .slice none 0 0, .slice A4 1536 c4, .slice none 0 0]) rfl rfl (by kernel_rfl) (by kernel_rfl) (by kernel_rfl) hpan (fun w' => by go_simp) ?_
  exact nd_1110s hpan hq hR hl hb hH

set_option maxHeartbeats 2000000 in
set_option maxRecDepth 100000 in
theorem nd_1101 {l : List Em.R} {A : Option Addr} {c : Nat} {w0 w : World} {Q : Exit → Act → World → Prop} {vr : Value} {vl : Value} {b : Nat} (hpan : PanQ Q) (hq : StartQ l A c w0 Q) (hR : Row w0 w0.heap.size 4 A l.length (acells l)) (hl : l.length ≤ 4000000) (hb : Below w0.heap.size w0 w)
    (hH : Hp w w0.heap.size (mk4 (mblk b) (prow l vr) (lrow l.length vl) none)) : wpAnyH Tryd.prog .any mops Q (fun _ => True) 3 #[true, true, true, true, true, false, false, true, false] ⟨(.slice A l.length c :: undef :: .slice none 0 0 :: .pointer (some ⟨b, 0, none⟩) :: undef :: undef :: .slice A l.length c :: vr :: .slice A l.length c :: .int .i64 (l.length : Int) :: vl :: undef :: undef :: undef :: undef :: undef :: undef :: undef :: undef :: undef :: undef :: undef :: undef :: undef :: undef :: undef :: undef :: undef :: undef :: undef :: undef :: undef :: undef :: undef :: undef :: undef :: undef :: undef :: undef :: undef :: undef :: undef :: undef :: undef :: undef :: undef :: undef :: undef :: undef :: undef :: []).toArray, []⟩ w := by
  refine held_node [5] (by kernel_rfl) (by simp) ?_
  intro i hi
  obtain rfl : i = 5 := by simpa using hi
  · refine held_op (o := ⟨some 11, .makeSlice 71 (.const (.int .i64 1536)) (.const (.int .i64 1536)), _, _, _, none⟩) rfl rfl ?_
    intro K hK
    have hmk : ∀ w, (Instr.makeSlice 71 (.int .i64 1536) (.int .i64 1536)).run Tryd.prog w = .ok (.slice (some ⟨w.heap.size, 0, none⟩) 1536 1536) (w.alloc (.cells (madeCells (Value.int .i64 0).cells (1536 * 1)) 3)) := fun w => run_mk pintEI (z := .int .i64 0) (by kernel_rfl) 1536 (by omega) (by omega) w
    have hown := Lib.hid (own_mk w w0.heap.size 1 1536 3 #[.int .i64 0] hb.size (by omega))
    replace hown := Lib.hid (by have := hown.out; rwa [zeros_int] at this)
    simp only [Value.cells] at hmk
    generalize madeCells _ (1536 * 1) = C at *
    go_simp
    refine hK _ _ (nd_1111 hpan hq hR hl (hb.alloc hb.size _) ?_)
    exact Hp.more (k := 4) hH (a' := .row 3 1 (.slice (some ⟨w.heap.size, 0, none⟩) 1536 1536) 1536 (lcells (List.replicate 1536 0))) rfl (ext_alloc w _) hown.out (fun g hg => by have e : w.heap.size = g := Option.some.inj hg; omega) (fun j hj => by match j with | 0 | 1 | 2 | 3 | 5 | 6 => rfl | 4 => exact absurd rfl hj | _ + 7 => rfl) rfl

set_option maxHeartbeats 2000000 in
set_option maxRecDepth 100000 in
theorem nd_1011 {l : List Em.R} {A : Option Addr} {c : Nat} {w0 w : World} {Q : Exit → Act → World → Prop} {vr : Value} {vn : Value} {b : Nat} (hpan : PanQ Q) (hq : StartQ l A c w0 Q) (hR : Row w0 w0.heap.size 4 A l.length (acells l)) (hl : l.length ≤ 4000000) (hb : Below w0.heap.size w0 w)
    (hH : Hp w w0.heap.size (mk4 (mblk b) (prow l vr) none (lrow 1536 vn))) : wpAnyH Tryd.prog .any mops Q (fun _ => True) 3 #[true, true, true, true, false, true, false, true, false] ⟨(.slice A l.length c :: undef :: .slice none 0 0 :: .pointer (some ⟨b, 0, none⟩) :: undef :: undef :: .slice A l.length c :: vr :: .slice A l.length c :: .int .i64 (l.length : Int) :: undef :: vn :: undef :: undef :: undef :: undef :: undef :: undef :: undef :: undef :: undef :: undef :: undef :: undef :: undef :: undef :: undef :: undef :: undef :: undef :: undef :: undef :: undef :: undef :: undef :: undef :: undef :: undef :: undef :: undef :: undef :: undef :: undef :: undef :: undef :: undef :: undef :: undef :: undef :: undef :: []).toArray, []⟩ w := by
  refine held_node [4] (by kernel_rfl) (by simp) ?_
  intro i hi
  obtain rfl : i = 4 := by simpa using hi
  · refine held_op (o := ⟨some 10, .makeSlice 71 (.tmp 9) (.tmp 9), _, _, _, none⟩) rfl rfl ?_
    intro K hK
    have hmk := fun w => run_mk pintEI (z := .int .i64 0) (by kernel_rfl) l.length (by omega) (by omega) w
    have hown := Lib.hid (own_mk w w0.heap.size 1 l.length 3 #[.int .i64 0] hb.size (by omega))
    replace hown := Lib.hid (by have := hown.out; rwa [zeros_int] at this)
    simp only [Value.cells] at hmk
    generalize madeCells _ (l.length * 1) = C at *
    go_simp
    refine hK _ _ (nd_1111 hpan hq hR hl (hb.alloc hb.size _) ?_)
    exact Hp.more (k := 2) hH (a' := .row 3 1 (.slice (some ⟨w.heap.size, 0, none⟩) l.length l.length) l.length (lcells (List.replicate l.length 0))) rfl (ext_alloc w _) hown.out (fun g hg => by have e : w.heap.size = g := Option.some.inj hg; omega) (fun j hj => by match j with | 0 | 1 | 3 | 4 | 5 | 6 => rfl | 2 => exact absurd rfl hj | _ + 7 => rfl) rfl

set_option maxHeartbeats 2000000 in
set_option maxRecDepth 100000 in
theorem nd_0111 {l : List Em.R} {A : Option Addr} {c : Nat} {w0 w : World} {Q : Exit → Act → World → Prop} {vl : Value} {vn : Value} {b : Nat} (hpan : PanQ Q) (hq : StartQ l A c w0 Q) (hR : Row w0 w0.heap.size 4 A l.length (acells l)) (hl : l.length ≤ 4000000) (hb : Below w0.heap.size w0 w)
    (hH : Hp w w0.heap.size (mk4 (mblk b) none (lrow l.length vl) (lrow 1536 vn))) : wpAnyH Tryd.prog .any mops Q (fun _ => True) 3 #[true, false, true, true, true, true, false, true, false] ⟨(.slice A l.length c :: undef :: .slice none 0 0 :: .pointer (some ⟨b, 0, none⟩) :: undef :: undef :: .slice A l.length c :: undef :: .slice A l.length c :: .int .i64 (l.length : Int) :: vl :: vn :: undef :: undef :: undef :: undef :: undef :: undef :: undef :: undef :: undef :: undef :: undef :: undef :: undef :: undef :: undef :: undef :: undef :: undef :: undef :: undef :: undef :: undef :: undef :: undef :: undef :: undef :: undef :: undef :: undef :: undef :: undef :: undef :: undef :: undef :: undef :: undef :: undef :: undef :: []).toArray, []⟩ w := by
  refine held_node [1] (by kernel_rfl) (by simp) ?_
  intro i hi
  obtain rfl : i = 1 := by simpa using hi
  · refine held_op (o := ⟨some 7, .call { callee := .value (.func 41), args := #[.tmp 6], argTypes := #[52] }, _, _, _, none⟩) rfl rfl ?_
    intro K hK
    go_simp
    refine (pheld_any l A c w (hR.ext hb) hl).mono ?_
    rintro e w2 ⟨⟨vr, rfl, hown⟩, hb2⟩
    refine hK _ _ (nd_1111 hpan hq hR hl (ext_trans hb hb2) ?_)
    exact Hp.more (k := 1) hH (a' := .row 75 4 vr l.length (acells (Em.hold l))) rfl hb2 (own_base hown hb.size) (fun g hg => (hown.lt g hg).1) (fun j hj => by match j with | 0 | 2 | 3 | 4 | 5 | 6 => rfl | 1 => exact absurd rfl hj | _ + 7 => rfl) rfl

set_option maxHeartbeats 2000000 in
set_option maxRecDepth 100000 in
theorem nd_1100 {l : List Em.R} {A : Option Addr} {c : Nat} {w0 w : World} {Q : Exit → Act → World → Prop} {vr : Value} {vl : Value} (hpan : PanQ Q) (hq : StartQ l A c w0 Q) (hR : Row w0 w0.heap.size 4 A l.length (acells l)) (hl : l.length ≤ 4000000) (hb : Below w0.heap.size w0 w)
    (hH : Hp w w0.heap.size (mk4 none (prow l vr) (lrow l.length vl) none)) : wpAnyH Tryd.prog .any mops Q (fun _ => True) 4 #[true, true, true, true, true, false, false, false, false] ⟨(.slice A l.length c :: undef :: .slice none 0 0 :: undef :: undef :: undef :: .slice A l.length c :: vr :: .slice A l.length c :: .int .i64 (l.length : Int) :: vl :: undef :: undef :: undef :: undef :: undef :: undef :: undef :: undef :: undef :: undef :: undef :: undef :: undef :: undef :: undef :: undef :: undef :: undef :: undef :: undef :: undef :: undef :: undef :: undef :: undef :: undef :: undef :: undef :: undef :: undef :: undef :: undef :: undef :: undef :: undef :: undef :: undef :: undef :: undef :: []).toArray, []⟩ w := by
  refine held_node [5, 7] (by kernel_rfl) (by simp) ?_
  intro i hi
  have hi2 : i = 5 ∨ i = 7 := by simpa using hi
  clear hi
  rcases hi2 with rfl | rfl
  · refine held_op (o := ⟨some 11, .makeSlice 71 (.const (.int .i64 1536)) (.const (.int .i64 1536)), _, _, _, none⟩) rfl rfl ?_
    intro K hK
    have hmk : ∀ w, (Instr.makeSlice 71 (.int .i64 1536) (.int .i64 1536)).run Tryd.prog w = .ok (.slice (some ⟨w.heap.size, 0, none⟩) 1536 1536) (w.alloc (.cells (madeCells (Value.int .i64 0).cells (1536 * 1)) 3)) := fun w => run_mk pintEI (z := .int .i64 0) (by kernel_rfl) 1536 (by omega) (by omega) w
    have hown := Lib.hid (own_mk w w0.heap.size 1 1536 3 #[.int .i64 0] hb.size (by omega))
    replace hown := Lib.hid (by have := hown.out; rwa [zeros_int] at this)
    simp only [Value.cells] at hmk
    generalize madeCells _ (1536 * 1) = C at *
    go_simp
    refine hK _ _ (nd_1110 hpan hq hR hl (hb.alloc hb.size _) ?_)
    exact Hp.more (k := 4) hH (a' := .row 3 1 (.slice (some ⟨w.heap.size, 0, none⟩) 1536 1536) 1536 (lcells (List.replicate 1536 0))) rfl (ext_alloc w _) hown.out (fun g hg => by have e : w.heap.size = g := Option.some.inj hg; omega) (fun j hj => by match j with | 0 | 1 | 2 | 3 | 5 | 6 => rfl | 4 => exact absurd rfl hj | _ + 7 => rfl) rfl
  · refine held_op (o := ⟨some 3, .alloc 93, _, _, _, none⟩) rfl rfl ?_
    intro K hK
    go_simp
    refine hK _ _ (nd_1101 hpan hq hR hl (hb.alloc hb.size _) ?_)
    exact Hp.more (k := 0) hH (a' := .blk w.heap.size mzero 93) rfl (ext_alloc w _) ⟨hb.size, heap_alloc_new w _⟩ (fun g hg => by have e : w.heap.size = g := Option.some.inj hg; omega) (fun j hj => by match j with | 0 => exact absurd rfl hj | 1 | 2 | 3 | 4 | 5 | 6 => rfl | _ + 7 => rfl) rfl

set_option maxHeartbeats 2000000 in
set_option maxRecDepth 100000 in
theorem nd_1010 {l : List Em.R} {A : Option Addr} {c : Nat} {w0 w : World} {Q : Exit → Act → World → Prop} {vr : Value} {vn : Value} (hpan : PanQ Q) (hq : StartQ l A c w0 Q) (hR : Row w0 w0.heap.size 4 A l.length (acells l)) (hl : l.length ≤ 4000000) (hb : Below w0.heap.size w0 w)
    (hH : Hp w w0.heap.size (mk4 none (prow l vr) none (lrow 1536 vn))) : wpAnyH Tryd.prog .any mops Q (fun _ => True) 4 #[true, true, true, true, false, true, false, false, false] ⟨(.slice A l.length c :: undef :: .slice none 0 0 :: undef :: undef :: undef :: .slice A l.length c :: vr :: .slice A l.length c :: .int .i64 (l.length : Int) :: undef :: vn :: undef :: undef :: undef :: undef :: undef :: undef :: undef :: undef :: undef :: undef :: undef :: undef :: undef :: undef :: undef :: undef :: undef :: undef :: undef :: undef :: undef :: undef :: undef :: undef :: undef :: undef :: undef :: undef :: undef :: undef :: undef :: undef :: undef :: undef :: undef :: undef :: undef :: undef :: []).toArray, []⟩ w := by
  refine held_node [4, 7] (by kernel_rfl) (by simp) ?_
  intro i hi
  have hi2 : i = 4 ∨ i = 7 := by simpa using hi
  clear hi
  rcases hi2 with rfl | rfl
  · refine held_op (o := ⟨some 10, .makeSlice 71 (.tmp 9) (.tmp 9), _, _, _, none⟩) rfl rfl ?_
    intro K hK
    have hmk := fun w => run_mk pintEI (z := .int .i64 0) (by kernel_rfl) l.length (by omega) (by omega) w
    have hown := Lib.hid (own_mk w w0.heap.size 1 l.length 3 #[.int .i64 0] hb.size (by omega))
    replace hown := Lib.hid (by have := hown.out; rwa [zeros_int] at this)
    simp only [Value.cells] at hmk
    generalize madeCells _ (l.length * 1) = C at *
    go_simp
    refine hK _ _ (nd_1110 hpan hq hR hl (hb.alloc hb.size _) ?_)
    exact Hp.more (k := 2) hH (a' := .row 3 1 (.slice (some ⟨w.heap.size, 0, none⟩) l.length l.length) l.length (lcells (List.replicate l.length 0))) rfl (ext_alloc w _) hown.out (fun g hg => by have e : w.heap.size = g := Option.some.inj hg; omega) (fun j hj => by match j with | 0 | 1 | 3 | 4 | 5 | 6 => rfl | 2 => exact absurd rfl hj | _ + 7 => rfl) rfl
  · refine held_op (o := ⟨some 3, .alloc 93, _, _, _, none⟩) rfl rfl ?_
    intro K hK
    go_simp
    refine hK _ _ (nd_1011 hpan hq hR hl (hb.alloc hb.size _) ?_)
    exact Hp.more (k := 0) hH (a' := .blk w.heap.size mzero 93) rfl (ext_alloc w _) ⟨hb.size, heap_alloc_new w _⟩ (fun g hg => by have e : w.heap.size = g := Option.some.inj hg; omega) (fun j hj => by match j with | 0 => exact absurd rfl hj | 1 | 2 | 3 | 4 | 5 | 6 => rfl | _ + 7 => rfl) rfl

set_option maxHeartbeats 2000000 in
set_option maxRecDepth 100000 in
theorem nd_1001 {l : List Em.R} {A : Option Addr} {c : Nat} {w0 w : World} {Q : Exit → Act → World → Prop} {vr : Value} {b : Nat} (hpan : PanQ Q) (hq : StartQ l A c w0 Q) (hR : Row w0 w0.heap.size 4 A l.length (acells l)) (hl : l.length ≤ 4000000) (hb : Below w0.heap.size w0 w)
    (hH : Hp w w0.heap.size (mk4 (mblk b) (prow l vr) none none)) : wpAnyH Tryd.prog .any mops Q (fun _ => True) 4 #[true, true, true, true, false, false, false, true, false] ⟨(.slice A l.length c :: undef :: .slice none 0 0 :: .pointer (some ⟨b, 0, none⟩) :: undef :: undef :: .slice A l.length c :: vr :: .slice A l.length c :: .int .i64 (l.length : Int) :: undef :: undef :: undef :: undef :: undef :: undef :: undef :: undef :: undef :: undef :: undef :: undef :: undef :: undef :: undef :: undef :: undef :: undef :: undef :: undef :: undef :: undef :: undef :: undef :: undef :: undef :: undef :: undef :: undef :: undef :: undef :: undef :: undef :: undef :: undef :: undef :: undef :: undef :: undef :: undef :: []).toArray, []⟩ w := by
  refine held_node [4, 5] (by kernel_rfl) (by simp) ?_
  intro i hi
  have hi2 : i = 4 ∨ i = 5 := by simpa using hi
  clear hi
  rcases hi2 with rfl | rfl
  · refine held_op (o := ⟨some 10, .makeSlice 71 (.tmp 9) (.tmp 9), _, _, _, none⟩) rfl rfl ?_
    intro K hK
    have hmk := fun w => run_mk pintEI (z := .int .i64 0) (by kernel_rfl) l.length (by omega) (by omega) w
    have hown := Lib.hid (own_mk w w0.heap.size 1 l.length 3 #[.int .i64 0] hb.size (by omega))
    replace hown := Lib.hid (by have := hown.out; rwa [zeros_int] at this)
    simp only [Value.cells] at hmk
    generalize madeCells _ (l.length * 1) = C at *
    go_simp
    refine hK _ _ (nd_1101 hpan hq hR hl (hb.alloc hb.size _) ?_)
    exact Hp.more (k := 2) hH (a' := .row 3 1 (.slice (some ⟨w.heap.size, 0, none⟩) l.length l.length) l.length (lcells (List.replicate l.length 0))) rfl (ext_alloc w _) hown.out (fun g hg => by have e : w.heap.size = g := Option.some.inj hg; omega) (fun j hj => by match j with | 0 | 1 | 3 | 4 | 5 | 6 => rfl | 2 => exact absurd rfl hj | _ + 7 => rfl) rfl
  · refine held_op (o := ⟨some 11, .makeSlice 71 (.const (.int .i64 1536)) (.const (.int .i64 1536)), _, _, _, none⟩) rfl rfl ?_
    intro K hK
    have hmk : ∀ w, (Instr.makeSlice 71 (.int .i64 1536) (.int .i64 1536)).run Tryd.prog w = .ok (.slice (some ⟨w.heap.size, 0, none⟩) 1536 1536) (w.alloc (.cells (madeCells (Value.int .i64 0).cells (1536 * 1)) 3)) := fun w => run_mk pintEI (z := .int .i64 0) (by kernel_rfl) 1536 (by omega) (by omega) w
    have hown := Lib.hid (own_mk w w0.heap.size 1 1536 3 #[.int .i64 0] hb.size (by omega))
    replace hown := Lib.hid (by have := hown.out; rwa [zeros_int] at this)
    simp only [Value.cells] at hmk
    generalize madeCells _ (1536 * 1) = C at *
    go_simp
    refine hK _ _ (nd_1011 hpan hq hR hl (hb.alloc hb.size _) ?_)
    exact Hp.more (k := 4) hH (a' := .row 3 1 (.slice (some ⟨w.heap.size, 0, none⟩) 1536 1536) 1536 (lcells (List.replicate 1536 0))) rfl (ext_alloc w _) hown.out (fun g hg => by have e : w.heap.size = g := Option.some.inj hg; omega) (fun j hj => by match j with | 0 | 1 | 2 | 3 | 5 | 6 => rfl | 4 => exact absurd rfl hj | _ + 7 => rfl) rfl

set_option maxHeartbeats 2000000 in
set_option maxRecDepth 100000 in
theorem nd_0110 {l : List Em.R} {A : Option Addr} {c : Nat} {w0 w : World} {Q : Exit → Act → World → Prop} {vl : Value} {vn : Value} (hpan : PanQ Q) (hq : StartQ l A c w0 Q) (hR : Row w0 w0.heap.size 4 A l.length (acells l)) (hl : l.length ≤ 4000000) (hb : Below w0.heap.size w0 w)
    (hH : Hp w w0.heap.size (mk4 none none (lrow l.length vl) (lrow 1536 vn))) : wpAnyH Tryd.prog .any mops Q (fun _ => True) 4 #[true, false, true, true, true, true, false, false, false] ⟨(.slice A l.length c :: undef :: .slice none 0 0 :: undef :: undef :: undef :: .slice A l.length c :: undef :: .slice A l.length c :: .int .i64 (l.length : Int) :: vl :: vn :: undef :: undef :: undef :: undef :: undef :: undef :: undef :: undef :: undef :: undef :: undef :: undef :: undef :: undef :: undef :: undef :: undef :: undef :: undef :: undef :: undef :: undef :: undef :: undef :: undef :: undef :: undef :: undef :: undef :: undef :: undef :: undef :: undef :: undef :: undef :: undef :: undef :: undef :: []).toArray, []⟩ w := by
  refine held_node [1, 7] (by kernel_rfl) (by simp) ?_
  intro i hi
  have hi2 : i = 1 ∨ i = 7 := by simpa using hi
  clear hi
  rcases hi2 with rfl | rfl
  · refine held_op (o := ⟨some 7, .call { callee := .value (.func 41), args := #[.tmp 6], argTypes := #[52] }, _, _, _, none⟩) rfl rfl ?_
    intro K hK
    go_simp
    refine (pheld_any l A c w (hR.ext hb) hl).mono ?_
    rintro e w2 ⟨⟨vr, rfl, hown⟩, hb2⟩
    refine hK _ _ (nd_1110 hpan hq hR hl (ext_trans hb hb2) ?_)
    exact Hp.more (k := 1) hH (a' := .row 75 4 vr l.length (acells (Em.hold l))) rfl hb2 (own_base hown hb.size) (fun g hg => (hown.lt g hg).1) (fun j hj => by match j with | 0 | 2 | 3 | 4 | 5 | 6 => rfl | 1 => exact absurd rfl hj | _ + 7 => rfl) rfl
  · refine held_op (o := ⟨some 3, .alloc 93, _, _, _, none⟩) rfl rfl ?_
    intro K hK
    go_simp
    refine hK _ _ (nd_0111 hpan hq hR hl (hb.alloc hb.size _) ?_)
    exact Hp.more (k := 0) hH (a' := .blk w.heap.size mzero 93) rfl (ext_alloc w _) ⟨hb.size, heap_alloc_new w _⟩ (fun g hg => by have e : w.heap.size = g := Option.some.inj hg; omega) (fun j hj => by match j with | 0 => exact absurd rfl hj | 1 | 2 | 3 | 4 | 5 | 6 => rfl | _ + 7 => rfl) rfl

set_option maxHeartbeats 2000000 in
set_option maxRecDepth 100000 in
theorem nd_0101 {l : List Em.R} {A : Option Addr} {c : Nat} {w0 w : World} {Q : Exit → Act → World → Prop} {vl : Value} {b : Nat} (hpan : PanQ Q) (hq : StartQ l A c w0 Q) (hR : Row w0 w0.heap.size 4 A l.length (acells l)) (hl : l.length ≤ 4000000) (hb : Below w0.heap.size w0 w)
    (hH : Hp w w0.heap.size (mk4 (mblk b) none (lrow l.length vl) none)) : wpAnyH Tryd.prog .any mops Q (fun _ => True) 4 #[true, false, true, true, true, false, false, true, false] ⟨(.slice A l.length c :: undef :: .slice none 0 0 :: .pointer (some ⟨b, 0, none⟩) :: undef :: undef :: .slice A l.length c :: undef :: .slice A l.length c :: .int .i64 (l.length : Int) :: vl :: undef :: undef :: undef :: undef :: undef :: undef :: undef :: undef :: undef :: undef :: undef :: undef :: undef :: undef :: undef :: undef :: undef :: undef :: undef :: undef :: undef :: undef :: undef :: undef :: undef :: undef :: undef :: undef :: undef :: undef :: undef :: undef :: undef :: undef :: undef :: undef :: undef :: undef :: undef :: []).toArray, []⟩ w := by
  refine held_node [1, 5] (by kernel_rfl) (by simp) ?_
  intro i hi
  have hi2 : i = 1 ∨ i = 5 := by simpa using hi
  clear hi
  rcases hi2 with rfl | rfl
  · refine held_op (o := ⟨some 7, .call { callee := .value (.func 41), args := #[.tmp 6], argTypes := #[52] }, _, _, _, none⟩) rfl rfl ?_
    intro K hK
    go_simp
    refine (pheld_any l A c w (hR.ext hb) hl).mono ?_
    rintro e w2 ⟨⟨vr, rfl, hown⟩, hb2⟩
    refine hK _ _ (nd_1101 hpan hq hR hl (ext_trans hb hb2) ?_)
    exact Hp.more (k := 1) hH (a' := .row 75 4 vr l.length (acells (Em.hold l))) rfl hb2 (own_base hown hb.size) (fun g hg => (hown.lt g hg).1) (fun j hj => by match j with | 0 | 2 | 3 | 4 | 5 | 6 => rfl | 1 => exact absurd rfl hj | _ + 7 => rfl) rfl
  · refine held_op (o := ⟨some 11, .makeSlice 71 (.const (.int .i64 1536)) (.const (.int .i64 1536)), _, _, _, none⟩) rfl rfl ?_
    intro K hK
    have hmk : ∀ w, (Instr.makeSlice 71 (.int .i64 1536) (.int .i64 1536)).run Tryd.prog w = .ok (.slice (some ⟨w.heap.size, 0, none⟩) 1536 1536) (w.alloc (.cells (madeCells (Value.int .i64 0).cells (1536 * 1)) 3)) := fun w => run_mk pintEI (z := .int .i64 0) (by kernel_rfl) 1536 (by omega) (by omega) w
    have hown := Lib.hid (own_mk w w0.heap.size 1 1536 3 #[.int .i64 0] hb.size (by omega))
    replace hown := Lib.hid (by have := hown.out; rwa [zeros_int] at this)
    simp only [Value.cells] at hmk
    generalize madeCells _ (1536 * 1) = C at *
    go_simp
    refine hK _ _ (nd_0111 hpan hq hR hl (hb.alloc hb.size _) ?_)
    exact Hp.more (k := 4) hH (a' := .row 3 1 (.slice (some ⟨w.heap.size, 0, none⟩) 1536 1536) 1536 (lcells (List.replicate 1536 0))) rfl (ext_alloc w _) hown.out (fun g hg => by have e : w.heap.size = g := Option.some.inj hg; omega) (fun j hj => by match j with | 0 | 1 | 2 | 3 | 5 | 6 => rfl | 4 => exact absurd rfl hj | _ + 7 => rfl) rfl

set_option maxHeartbeats 2000000 in
set_option maxRecDepth 100000 in
theorem nd_0011 {l : List Em.R} {A : Option Addr} {c : Nat} {w0 w : World} {Q : Exit → Act → World → Prop} {vn : Value} {b : Nat} (hpan : PanQ Q) (hq : StartQ l A c w0 Q) (hR : Row w0 w0.heap.size 4 A l.length (acells l)) (hl : l.length ≤ 4000000) (hb : Below w0.heap.size w0 w)
    (hH : Hp w w0.heap.size (mk4 (mblk b) none none (lrow 1536 vn))) : wpAnyH Tryd.prog .any mops Q (fun _ => True) 4 #[true, false, true, true, false, true, false, true, false] ⟨(.slice A l.length c :: undef :: .slice none 0 0 :: .pointer (some ⟨b, 0, none⟩) :: undef :: undef :: .slice A l.length c :: undef :: .slice A l.length c :: .int .i64 (l.length : Int) :: undef :: vn :: undef :: undef :: undef :: undef :: undef :: undef :: undef :: undef :: undef :: undef :: undef :: undef :: undef :: undef :: undef :: undef :: undef :: undef :: undef :: undef :: undef :: undef :: undef :: undef :: undef :: undef :: undef :: undef :: undef :: undef :: undef :: undef :: undef :: undef :: undef :: undef :: undef :: undef :: []).toArray, []⟩ w := by
  refine held_node [1, 4] (by kernel_rfl) (by simp) ?_
  intro i hi
  have hi2 : i = 1 ∨ i = 4 := by simpa using hi
  clear hi
  rcases hi2 with rfl | rfl
  · refine held_op (o := ⟨some 7, .call { callee := .value (.func 41), args := #[.tmp 6], argTypes := #[52] }, _, _, _, none⟩) rfl rfl ?_
    intro K hK
    go_simp
    refine (pheld_any l A c w (hR.ext hb) hl).mono ?_
    rintro e w2 ⟨⟨vr, rfl, hown⟩, hb2⟩
    refine hK _ _ (nd_1011 hpan hq hR hl (ext_trans hb hb2) ?_)
    exact Hp.more (k := 1) hH (a' := .row 75 4 vr l.length (acells (Em.hold l))) rfl hb2 (own_base hown hb.size) (fun g hg => (hown.lt g hg).1) (fun j hj => by match j with | 0 | 2 | 3 | 4 | 5 | 6 => rfl | 1 => exact absurd rfl hj | _ + 7 => rfl) rfl
  · refine held_op (o := ⟨some 10, .makeSlice 71 (.tmp 9) (.tmp 9), _, _, _, none⟩) rfl rfl ?_
    intro K hK
    have hmk := fun w => run_mk pintEI (z := .int .i64 0) (by kernel_rfl) l.length (by omega) (by omega) w
    have hown := Lib.hid (own_mk w w0.heap.size 1 l.length 3 #[.int .i64 0] hb.size (by omega))
    replace hown := Lib.hid (by have := hown.out; rwa [zeros_int] at this)
    simp only [Value.cells] at hmk
    generalize madeCells _ (l.length * 1) = C at *
    go_simp
    refine hK _ _ (nd_0111 hpan hq hR hl (hb.alloc hb.size _) ?_)
    exact Hp.more (k := 2) hH (a' := .row 3 1 (.slice (some ⟨w.heap.size, 0, none⟩) l.length l.length) l.length (lcells (List.replicate l.length 0))) rfl (ext_alloc w _) hown.out (fun g hg => by have e : w.heap.size = g := Option.some.inj hg; omega) (fun j hj => by match j with | 0 | 1 | 3 | 4 | 5 | 6 => rfl | 2 => exact absurd rfl hj | _ + 7 => rfl) rfl

set_option maxHeartbeats 2000000 in
set_option maxRecDepth 100000 in
theorem nd_1000 {l : List Em.R} {A : Option Addr} {c : Nat} {w0 w : World} {Q : Exit → Act → World → Prop} {vr : Value} (hpan : PanQ Q) (hq : StartQ l A c w0 Q) (hR : Row w0 w0.heap.size 4 A l.length (acells l)) (hl : l.length ≤ 4000000) (hb : Below w0.heap.size w0 w)
    (hH : Hp w w0.heap.size (mk4 none (prow l vr) none none)) : wpAnyH Tryd.prog .any mops Q (fun _ => True) 5 #[true, true, true, true, false, false, false, false, false] ⟨(.slice A l.length c :: undef :: .slice none 0 0 :: undef :: undef :: undef :: .slice A l.length c :: vr :: .slice A l.length c :: .int .i64 (l.length : Int) :: undef :: undef :: undef :: undef :: undef :: undef :: undef :: undef :: undef :: undef :: undef :: undef :: undef :: undef :: undef :: undef :: undef :: undef :: undef :: undef :: undef :: undef :: undef :: undef :: undef :: undef :: undef :: undef :: undef :: undef :: undef :: undef :: undef :: undef :: undef :: undef :: undef :: undef :: undef :: undef :: []).toArray, []⟩ w := by
  refine held_node [4, 5, 7] (by kernel_rfl) (by simp) ?_
  intro i hi
  have hi2 : i = 4 ∨ i = 5 ∨ i = 7 := by simpa using hi
  clear hi
  rcases hi2 with rfl | rfl | rfl
  · refine held_op (o := ⟨some 10, .makeSlice 71 (.tmp 9) (.tmp 9), _, _, _, none⟩) rfl rfl ?_
    intro K hK
    have hmk := fun w => run_mk pintEI (z := .int .i64 0) (by kernel_rfl) l.length (by omega) (by omega) w
    have hown := Lib.hid (own_mk w w0.heap.size 1 l.length 3 #[.int .i64 0] hb.size (by omega))
    replace hown := Lib.hid (by have := hown.out; rwa [zeros_int] at this)
    simp only [Value.cells] at hmk
    generalize madeCells _ (l.length * 1) = C at *
    go_simp
    refine hK _ _ (nd_1100 hpan hq hR hl (hb.alloc hb.size _) ?_)
    exact Hp.more (k := 2) hH (a' := .row 3 1 (.slice (some ⟨w.heap.size, 0, none⟩) l.length l.length) l.length (lcells (List.replicate l.length 0))) rfl (ext_alloc w _) hown.out (fun g hg => by have e : w.heap.size = g := Option.some.inj hg; omega) (fun j hj => by match j with | 0 | 1 | 3 | 4 | 5 | 6 => rfl | 2 => exact absurd rfl hj | _ + 7 => rfl) rfl
  · refine held_op (o := ⟨some 11, .makeSlice 71 (.const (.int .i64 1536)) (.const (.int .i64 1536)), _, _, _, none⟩) rfl rfl ?_
    intro K hK
    have hmk : ∀ w, (Instr.makeSlice 71 (.int .i64 1536) (.int .i64 1536)).run Tryd.prog w = .ok (.slice (some ⟨w.heap.size, 0, none⟩) 1536 1536) (w.alloc (.cells (madeCells (Value.int .i64 0).cells (1536 * 1)) 3)) := fun w => run_mk pintEI (z := .int .i64 0) (by kernel_rfl) 1536 (by omega) (by omega) w
    have hown := Lib.hid (own_mk w w0.heap.size 1 1536 3 #[.int .i64 0] hb.size (by omega))
    replace hown := Lib.hid (by have := hown.out; rwa [zeros_int] at this)
    simp only [Value.cells] at hmk
    generalize madeCells _ (1536 * 1) = C at *
    go_simp
    refine hK _ _ (nd_1010 hpan hq hR hl (hb.alloc hb.size _) ?_)
    exact Hp.more (k := 4) hH (a' := .row 3 1 (.slice (some ⟨w.heap.size, 0, none⟩) 1536 1536) 1536 (lcells (List.replicate 1536 0))) rfl (ext_alloc w _) hown.out (fun g hg => by have e : w.heap.size = g := Option.some.inj hg; omega) (fun j hj => by match j with | 0 | 1 | 2 | 3 | 5 | 6 => rfl | 4 => exact absurd rfl hj | _ + 7 => rfl) rfl
  · refine held_op (o := ⟨some 3, .alloc 93, _, _, _, none⟩) rfl rfl ?_
    intro K hK
    go_simp
    refine hK _ _ (nd_1001 hpan hq hR hl (hb.alloc hb.size _) ?_)
    exact Hp.more (k := 0) hH (a' := .blk w.heap.size mzero 93) rfl (ext_alloc w _) ⟨hb.size, heap_alloc_new w _⟩ (fun g hg => by have e : w.heap.size = g := Option.some.inj hg; omega) (fun j hj => by match j with | 0 => exact absurd rfl hj | 1 | 2 | 3 | 4 | 5 | 6 => rfl | _ + 7 => rfl) rfl

set_option maxHeartbeats 2000000 in
set_option maxRecDepth 100000 in
theorem nd_0100 {l : List Em.R} {A : Option Addr} {c : Nat} {w0 w : World} {Q : Exit → Act → World → Prop} {vl : Value} (hpan : PanQ Q) (hq : StartQ l A c w0 Q) (hR : Row w0 w0.heap.size 4 A l.length (acells l)) (hl : l.length ≤ 4000000) (hb : Below w0.heap.size w0 w)
    (hH : Hp w w0.heap.size (mk4 none none (lrow l.length vl) none)) : wpAnyH Tryd.prog .any mops Q (fun _ => True) 5 #[true, false, true, true, true, false, false, false, false] ⟨(.slice A l.length c :: undef :: .slice none 0 0 :: undef :: undef :: undef :: .slice A l.length c :: undef :: .slice A l.length c :: .int .i64 (l.length : Int) :: vl :: undef :: undef :: undef :: undef :: undef :: undef :: undef :: undef :: undef :: undef :: undef :: undef :: undef :: undef :: undef :: undef :: undef :: undef :: undef :: undef :: undef :: undef :: undef :: undef :: undef :: undef :: undef :: undef :: undef :: undef :: undef :: undef :: undef :: undef :: undef :: undef :: undef :: undef :: undef :: []).toArray, []⟩ w := by
  refine held_node [1, 5, 7] (by kernel_rfl) (by simp) ?_
  intro i hi
  have hi2 : i = 1 ∨ i = 5 ∨ i = 7 := by simpa using hi
  clear hi
  rcases hi2 with rfl | rfl | rfl
  · refine held_op (o := ⟨some 7, .call { callee := .value (.func 41), args := #[.tmp 6], argTypes := #[52] }, _, _, _, none⟩) rfl rfl ?_
    intro K hK
    go_simp
    refine (pheld_any l A c w (hR.ext hb) hl).mono ?_
    rintro e w2 ⟨⟨vr, rfl, hown⟩, hb2⟩
    refine hK _ _ (nd_1100 hpan hq hR hl (ext_trans hb hb2) ?_)
    exact Hp.more (k := 1) hH (a' := .row 75 4 vr l.length (acells (Em.hold l))) rfl hb2 (own_base hown hb.size) (fun g hg => (hown.lt g hg).1) (fun j hj => by match j with | 0 | 2 | 3 | 4 | 5 | 6 => rfl | 1 => exact absurd rfl hj | _ + 7 => rfl) rfl
  · refine held_op (o := ⟨some 11, .makeSlice 71 (.const (.int .i64 1536)) (.const (.int .i64 1536)), _, _, _, none⟩) rfl rfl ?_
    intro K hK
    have hmk : ∀ w, (Instr.makeSlice 71 (.int .i64 1536) (.int .i64 1536)).run Tryd.prog w = .ok (.slice (some ⟨w.heap.size, 0, none⟩) 1536 1536) (w.alloc (.cells (madeCells (Value.int .i64 0).cells (1536 * 1)) 3)) := fun w => run_mk pintEI (z := .int .i64 0) (by kernel_rfl) 1536 (by omega) (by omega) w
    have hown := Lib.hid (own_mk w w0.heap.size 1 1536 3 #[.int .i64 0] hb.size (by omega))
    replace hown := Lib.hid (by have := hown.out; rwa [zeros_int] at this)
    simp only [Value.cells] at hmk
    generalize madeCells _ (1536 * 1) = C at *
    go_simp
    refine hK _ _ (nd_0110 hpan hq hR hl (hb.alloc hb.size _) ?_)
    exact Hp.more (k := 4) hH (a' := .row 3 1 (.slice (some ⟨w.heap.size, 0, none⟩) 1536 1536) 1536 (lcells (List.replicate 1536 0))) rfl (ext_alloc w _) hown.out (fun g hg => by have e : w.heap.size = g := Option.some.inj hg; omega) (fun j hj => by match j with | 0 | 1 | 2 | 3 | 5 | 6 => rfl | 4 => exact absurd rfl hj | _ + 7 => rfl) rfl
  · refine held_op (o := ⟨some 3, .alloc 93, _, _, _, none⟩) rfl rfl ?_
    intro K hK
    go_simp
    refine hK _ _ (nd_0101 hpan hq hR hl (hb.alloc hb.size _) ?_)
    exact Hp.more (k := 0) hH (a' := .blk w.heap.size mzero 93) rfl (ext_alloc w _) ⟨hb.size, heap_alloc_new w _⟩ (fun g hg => by have e : w.heap.size = g := Option.some.inj hg; omega) (fun j hj => by match j with | 0 => exact absurd rfl hj | 1 | 2 | 3 | 4 | 5 | 6 => rfl | _ + 7 => rfl) rfl

set_option maxHeartbeats 2000000 in
set_option maxRecDepth 100000 in
theorem nd_0010 {l : List Em.R} {A : Option Addr} {c : Nat} {w0 w : World} {Q : Exit → Act → World → Prop} {vn : Value} (hpan : PanQ Q) (hq : StartQ l A c w0 Q) (hR : Row w0 w0.heap.size 4 A l.length (acells l)) (hl : l.length ≤ 4000000) (hb : Below w0.heap.size w0 w)
    (hH : Hp w w0.heap.size (mk4 none none none (lrow 1536 vn))) : wpAnyH Tryd.prog .any mops Q (fun _ => True) 5 #[true, false, true, true, false, true, false, false, false] ⟨(.slice A l.length c :: undef :: .slice none 0 0 :: undef :: undef :: undef :: .slice A l.length c :: undef :: .slice A l.length c :: .int .i64 (l.length : Int) :: undef :: vn :: undef :: undef :: undef :: undef :: undef :: undef :: undef :: undef :: undef :: undef :: undef :: undef :: undef :: undef :: undef :: undef :: undef :: undef :: undef :: undef :: undef :: undef :: undef :: undef :: undef :: undef :: undef :: undef :: undef :: undef :: undef :: undef :: undef :: undef :: undef :: undef :: undef :: undef :: []).toArray, []⟩ w := by
  refine held_node [1, 4, 7] (by kernel_rfl) (by simp) ?_
  intro i hi
  have hi2 : i = 1 ∨ i = 4 ∨ i = 7 := by simpa using hi
  clear hi
  rcases hi2 with rfl | rfl | rfl
  · refine held_op (o := ⟨some 7, .call { callee := .value (.func 41), args := #[.tmp 6], argTypes := #[52] }, _, _, _, none⟩) rfl rfl ?_
    intro K hK
    go_simp
    refine (pheld_any l A c w (hR.ext hb) hl).mono ?_
    rintro e w2 ⟨⟨vr, rfl, hown⟩, hb2⟩
    refine hK _ _ (nd_1010 hpan hq hR hl (ext_trans hb hb2) ?_)
    exact Hp.more (k := 1) hH (a' := .row 75 4 vr l.length (acells (Em.hold l))) rfl hb2 (own_base hown hb.size) (fun g hg => (hown.lt g hg).1) (fun j hj => by match j with | 0 | 2 | 3 | 4 | 5 | 6 => rfl | 1 => exact absurd rfl hj | _ + 7 => rfl) rfl
  · refine held_op (o := ⟨some 10, .makeSlice 71 (.tmp 9) (.tmp 9), _, _, _, none⟩) rfl rfl ?_
    intro K hK
    have hmk := fun w => run_mk pintEI (z := .int .i64 0) (by kernel_rfl) l.length (by omega) (by omega) w
    have hown := Lib.hid (own_mk w w0.heap.size 1 l.length 3 #[.int .i64 0] hb.size (by omega))
    replace hown := Lib.hid (by have := hown.out; rwa [zeros_int] at this)
    simp only [Value.cells] at hmk
    generalize madeCells _ (l.length * 1) = C at *
    go_simp
    refine hK _ _ (nd_0110 hpan hq hR hl (hb.alloc hb.size _) ?_)
    exact Hp.more (k := 2) hH (a' := .row 3 1 (.slice (some ⟨w.heap.size, 0, none⟩) l.length l.length) l.length (lcells (List.replicate l.length 0))) rfl (ext_alloc w _) hown.out (fun g hg => by have e : w.heap.size = g := Option.some.inj hg; omega) (fun j hj => by match j with | 0 | 1 | 3 | 4 | 5 | 6 => rfl | 2 => exact absurd rfl hj | _ + 7 => rfl) rfl
  · refine held_op (o := ⟨some 3, .alloc 93, _, _, _, none⟩) rfl rfl ?_
    intro K hK
    go_simp
    refine hK _ _ (nd_0011 hpan hq hR hl (hb.alloc hb.size _) ?_)
    exact Hp.more (k := 0) hH (a' := .blk w.heap.size mzero 93) rfl (ext_alloc w _) ⟨hb.size, heap_alloc_new w _⟩ (fun g hg => by have e : w.heap.size = g := Option.some.inj hg; omega) (fun j hj => by match j with | 0 => exact absurd rfl hj | 1 | 2 | 3 | 4 | 5 | 6 => rfl | _ + 7 => rfl) rfl

set_option maxHeartbeats 2000000 in
set_option maxRecDepth 100000 in
theorem nd_0001 {l : List Em.R} {A : Option Addr} {c : Nat} {w0 w : World} {Q : Exit → Act → World → Prop} {b : Nat} (hpan : PanQ Q) (hq : StartQ l A c w0 Q) (hR : Row w0 w0.heap.size 4 A l.length (acells l)) (hl : l.length ≤ 4000000) (hb : Below w0.heap.size w0 w)
    (hH : Hp w w0.heap.size (mk4 (mblk b) none none none)) : wpAnyH Tryd.prog .any mops Q (fun _ => True) 5 #[true, false, true, true, false, false, false, true, false] ⟨(.slice A l.length c :: undef :: .slice none 0 0 :: .pointer (some ⟨b, 0, none⟩) :: undef :: undef :: .slice A l.length c :: undef :: .slice A l.length c :: .int .i64 (l.length : Int) :: undef :: undef :: undef :: undef :: undef :: undef :: undef :: undef :: undef :: undef :: undef :: undef :: undef :: undef :: undef :: undef :: undef :: undef :: undef :: undef :: undef :: undef :: undef :: undef :: undef :: undef :: undef :: undef :: undef :: undef :: undef :: undef :: undef :: undef :: undef :: undef :: undef :: undef :: undef :: undef :: []).toArray, []⟩ w := by
  refine held_node [1, 4, 5] (by kernel_rfl) (by simp) ?_
  intro i hi
  have hi2 : i = 1 ∨ i = 4 ∨ i = 5 := by simpa using hi
  clear hi
  rcases hi2 with rfl | rfl | rfl
  · refine held_op (o := ⟨some 7, .call { callee := .value (.func 41), args := #[.tmp 6], argTypes := #[52] }, _, _, _, none⟩) rfl rfl ?_
    intro K hK
    go_simp
    refine (pheld_any l A c w (hR.ext hb) hl).mono ?_
    rintro e w2 ⟨⟨vr, rfl, hown⟩, hb2⟩
    refine hK _ _ (nd_1001 hpan hq hR hl (ext_trans hb hb2) ?_)
    exact Hp.more (k := 1) hH (a' := .row 75 4 vr l.length (acells (Em.hold l))) rfl hb2 (own_base hown hb.size) (fun g hg => (hown.lt g hg).1) (fun j hj => by match j with | 0 | 2 | 3 | 4 | 5 | 6 => rfl | 1 => exact absurd rfl hj | _ + 7 => rfl) rfl
  · refine held_op (o := ⟨some 10, .makeSlice 71 (.tmp 9) (.tmp 9), _, _, _, none⟩) rfl rfl ?_
    intro K hK
    have hmk := fun w => run_mk pintEI (z := .int .i64 0) (by kernel_rfl) l.length (by omega) (by omega) w
    have hown := Lib.hid (own_mk w w0.heap.size 1 l.length 3 #[.int .i64 0] hb.size (by omega))
    replace hown := Lib.hid (by have := hown.out; rwa [zeros_int] at this)
    simp only [Value.cells] at hmk
    generalize madeCells _ (l.length * 1) = C at *
    go_simp
    refine hK _ _ (nd_0101 hpan hq hR hl (hb.alloc hb.size _) ?_)
    exact Hp.more (k := 2) hH (a' := .row 3 1 (.slice (some ⟨w.heap.size, 0, none⟩) l.length l.length) l.length (lcells (List.replicate l.length 0))) rfl (ext_alloc w _) hown.out (fun g hg => by have e : w.heap.size = g := Option.some.inj hg; omega) (fun j hj => by match j with | 0 | 1 | 3 | 4 | 5 | 6 => rfl | 2 => exact absurd rfl hj | _ + 7 => rfl) rfl
  · refine held_op (o := ⟨some 11, .makeSlice 71 (.const (.int .i64 1536)) (.const (.int .i64 1536)), _, _, _, none⟩) rfl rfl ?_
    intro K hK
    have hmk : ∀ w, (Instr.makeSlice 71 (.int .i64 1536) (.int .i64 1536)).run Tryd.prog w = .ok (.slice (some ⟨w.heap.size, 0, none⟩) 1536 1536) (w.alloc (.cells (madeCells (Value.int .i64 0).cells (1536 * 1)) 3)) := fun w => run_mk pintEI (z := .int .i64 0) (by kernel_rfl) 1536 (by omega) (by omega) w
    have hown := Lib.hid (own_mk w w0.heap.size 1 1536 3 #[.int .i64 0] hb.size (by omega))
    replace hown := Lib.hid (by have := hown.out; rwa [zeros_int] at this)
    simp only [Value.cells] at hmk
    generalize madeCells _ (1536 * 1) = C at *
    go_simp
    refine hK _ _ (nd_0011 hpan hq hR hl (hb.alloc hb.size _) ?_)
    exact Hp.more (k := 4) hH (a' := .row 3 1 (.slice (some ⟨w.heap.size, 0, none⟩) 1536 1536) 1536 (lcells (List.replicate 1536 0))) rfl (ext_alloc w _) hown.out (fun g hg => by have e : w.heap.size = g := Option.some.inj hg; omega) (fun j hj => by match j with | 0 | 1 | 2 | 3 | 5 | 6 => rfl | 4 => exact absurd rfl hj | _ + 7 => rfl) rfl

set_option maxHeartbeats 2000000 in
set_option maxRecDepth 100000 in
theorem nd_0000 {l : List Em.R} {A : Option Addr} {c : Nat} {w0 w : World} {Q : Exit → Act → World → Prop} (hpan : PanQ Q) (hq : StartQ l A c w0 Q) (hR : Row w0 w0.heap.size 4 A l.length (acells l)) (hl : l.length ≤ 4000000) (hb : Below w0.heap.size w0 w)
    (hH : Hp w w0.heap.size (mk4 none none none none)) : wpAnyH Tryd.prog .any mops Q (fun _ => True) 6 #[true, false, true, true, false, false, false, false, false] ⟨(.slice A l.length c :: undef :: .slice none 0 0 :: undef :: undef :: undef :: .slice A l.length c :: undef :: .slice A l.length c :: .int .i64 (l.length : Int) :: undef :: undef :: undef :: undef :: undef :: undef :: undef :: undef :: undef :: undef :: undef :: undef :: undef :: undef :: undef :: undef :: undef :: undef :: undef :: undef :: undef :: undef :: undef :: undef :: undef :: undef :: undef :: undef :: undef :: undef :: undef :: undef :: undef :: undef :: undef :: undef :: undef :: undef :: undef :: undef :: []).toArray, []⟩ w := by
  refine held_node [1, 4, 5, 7] (by kernel_rfl) (by simp) ?_
  intro i hi
  have hi2 : i = 1 ∨ i = 4 ∨ i = 5 ∨ i = 7 := by simpa using hi
  clear hi
  rcases hi2 with rfl | rfl | rfl | rfl
  · refine held_op (o := ⟨some 7, .call { callee := .value (.func 41), args := #[.tmp 6], argTypes := #[52] }, _, _, _, none⟩) rfl rfl ?_
    intro K hK
    go_simp
    refine (pheld_any l A c w (hR.ext hb) hl).mono ?_
    rintro e w2 ⟨⟨vr, rfl, hown⟩, hb2⟩
    refine hK _ _ (nd_1000 hpan hq hR hl (ext_trans hb hb2) ?_)
    exact Hp.more (k := 1) hH (a' := .row 75 4 vr l.length (acells (Em.hold l))) rfl hb2 (own_base hown hb.size) (fun g hg => (hown.lt g hg).1) (fun j hj => by match j with | 0 | 2 | 3 | 4 | 5 | 6 => rfl | 1 => exact absurd rfl hj | _ + 7 => rfl) rfl
  · refine held_op (o := ⟨some 10, .makeSlice 71 (.tmp 9) (.tmp 9), _, _, _, none⟩) rfl rfl ?_
    intro K hK
    have hmk := fun w => run_mk pintEI (z := .int .i64 0) (by kernel_rfl) l.length (by omega) (by omega) w
    have hown := Lib.hid (own_mk w w0.heap.size 1 l.length 3 #[.int .i64 0] hb.size (by omega))
    replace hown := Lib.hid (by have := hown.out; rwa [zeros_int] at this)
    simp only [Value.cells] at hmk
    generalize madeCells _ (l.length * 1) = C at *
    go_simp
    refine hK _ _ (nd_0100 hpan hq hR hl (hb.alloc hb.size _) ?_)
    exact Hp.more (k := 2) hH (a' := .row 3 1 (.slice (some ⟨w.heap.size, 0, none⟩) l.length l.length) l.length (lcells (List.replicate l.length 0))) rfl (ext_alloc w _) hown.out (fun g hg => by have e : w.heap.size = g := Option.some.inj hg; omega) (fun j hj => by match j with | 0 | 1 | 3 | 4 | 5 | 6 => rfl | 2 => exact absurd rfl hj | _ + 7 => rfl) rfl
  · refine held_op (o := ⟨some 11, .makeSlice 71 (.const (.int .i64 1536)) (.const (.int .i64 1536)), _, _, _, none⟩) rfl rfl ?_
    intro K hK
    have hmk : ∀ w, (Instr.makeSlice 71 (.int .i64 1536) (.int .i64 1536)).run Tryd.prog w = .ok (.slice (some ⟨w.heap.size, 0, none⟩) 1536 1536) (w.alloc (.cells (madeCells (Value.int .i64 0).cells (1536 * 1)) 3)) := fun w => run_mk pintEI (z := .int .i64 0) (by kernel_rfl) 1536 (by omega) (by omega) w
    have hown := Lib.hid (own_mk w w0.heap.size 1 1536 3 #[.int .i64 0] hb.size (by omega))
    replace hown := Lib.hid (by have := hown.out; rwa [zeros_int] at this)
    simp only [Value.cells] at hmk
    generalize madeCells _ (1536 * 1) = C at *
    go_simp
    refine hK _ _ (nd_0010 hpan hq hR hl (hb.alloc hb.size _) ?_)
    exact Hp.more (k := 4) hH (a' := .row 3 1 (.slice (some ⟨w.heap.size, 0, none⟩) 1536 1536) 1536 (lcells (List.replicate 1536 0))) rfl (ext_alloc w _) hown.out (fun g hg => by have e : w.heap.size = g := Option.some.inj hg; omega) (fun j hj => by match j with | 0 | 1 | 2 | 3 | 5 | 6 => rfl | 4 => exact absurd rfl hj | _ + 7 => rfl) rfl
  · refine held_op (o := ⟨some 3, .alloc 93, _, _, _, none⟩) rfl rfl ?_
    intro K hK
    go_simp
    refine hK _ _ (nd_0001 hpan hq hR hl (hb.alloc hb.size _) ?_)
    exact Hp.more (k := 0) hH (a' := .blk w.heap.size mzero 93) rfl (ext_alloc w _) ⟨hb.size, heap_alloc_new w _⟩ (fun g hg => by have e : w.heap.size = g := Option.some.inj hg; omega) (fun j hj => by match j with | 0 => exact absurd rfl hj | 1 | 2 | 3 | 4 | 5 | 6 => rfl | _ + 7 => rfl) rfl

set_option maxHeartbeats 2000000 in
set_option maxRecDepth 100000 in
/-- the whole region -/
theorem pm_start {l : List Em.R} {A : Option Addr} {c : Nat} {w0 : World} {Q : Exit → Act → World → Prop} (hpan : PanQ Q) (hq : StartQ l A c w0 Q) (hR : Row w0 w0.heap.size 4 A l.length (acells l)) (hl : l.length ≤ 4000000) :
    Code.wp Tryd.prog (regionAt Tryd.f26 1) Q ⟨(.slice A l.length c :: undef :: .slice none 0 0 :: undef :: undef :: undef :: undef :: undef :: undef :: undef :: undef :: undef :: undef :: undef :: undef :: undef :: undef :: undef :: undef :: undef :: undef :: undef :: undef :: undef :: undef :: undef :: undef :: undef :: undef :: undef :: undef :: undef :: undef :: undef :: undef :: undef :: undef :: undef :: undef :: undef :: undef :: undef :: undef :: undef :: undef :: undef :: undef :: undef :: undef :: undef :: []).toArray, []⟩ w0 := by
  show Code.wp Tryd.prog (Code.region 1 mops true) Q _ w0
  refine wp_region_held (S := fun _ => True) (by kernel_rfl) ?_
  show wpAnyH Tryd.prog .any mops Q (fun _ => True) 9 #[false, false, false, false, false, false, false, false, false] _ _
  refine held_rd (i := 0) (o := ⟨some 6, .move (.tmp 0), _, _, _, none⟩) (.slice A l.length c) rfl rfl (by kernel_rfl) (by kernel_rfl) (by kernel_rfl) hpan (fun w' => by go_simp) ?_
  refine held_rd (i := 2) (o := ⟨some 8, .move (.tmp 0), _, _, _, none⟩) (.slice A l.length c) rfl rfl (by kernel_rfl) (by kernel_rfl) (by kernel_rfl) hpan (fun w' => by go_simp) ?_
  refine held_rd (i := 3) (o := ⟨some 9, .call { callee := .builtin .len, args := #[.tmp 8], argTypes := #[52] }, _, _, _, none⟩) (.int .i64 (l.length : Int)) rfl rfl (by kernel_rfl) (by kernel_rfl) (by kernel_rfl) hpan (fun w' => by go_simp) ?_
  exact nd_0000 hpan hq hR hl (Below.refl _ _).drew (mk4_none _ _)
end Go.Proofs.YtkfhkfagmokjpaaDoor
end

namespace Go.Proofs.YtkfhkfagmokjpaaDoor
open Go.RowKit

end Go.Proofs.YtkfhkfagmokjpaaDoor

namespace Go.Proofs.YtkfhkfagmokjpaaDoor
open Go.RowKit

/-- blocks of the call's own, but the two rows' -/
def QW (base : Nat) (v u : Value) (w : World) : Nat → Prop := fun b => base ≤ b ∧ b < w.heap.size ∧ v.ownBlock ≠ some b ∧ u.ownBlock ≠ some b
section
variable {base : Nat} {v u : Value} {st : Il.Sc} {css : List (List Value)} {w w' : World}
end
/-- a part without kids -/
theorem PC_bare (w : World) (Q : Nat → Prop) (kd : Nat) (t d : List UInt8) (r : Option Nat) (n : Nat) (c : UInt8) : PC w Q ⟨.mk kd t d [], r, n, c⟩ [.int .i64 (kd : Int), .string (bs t), .string (bs d), .slice none 0 0, .int .i64 (runI r), .int .i64 (n : Int), .int .u8 (c.toNat : Int)] := by
  refine ⟨[.int .i64 (kd : Int), .string (bs t), .string (bs d), .slice none 0 0], ?_, rfl⟩
  unfold IC
  exact ⟨none, 0, [], rfl, Nat.le_refl _, ⟨rfl, fun h => by simp at h⟩, ICs_nil⟩
end Go.Proofs.YtkfhkfagmokjpaaDoor

namespace Go.Proofs.YtkfhkfagmokjpaaDoor
open Go.RowKit

theorem Il.kind_n {s : List UInt8} {i : Nat} {r : Em.R} {e : Nat} (h : Em.kind s (i : Int) = some (r, e)) : r.n = ((e - i : Nat) : Int) := by
  unfold Em.kind at h
  split at h
  · simp only [Int.toNat_natCast, Option.some.injEq, Prod.mk.injEq] at h
    obtain ⟨h1, h2⟩ := h
    have : r.n = (Fn.run (s.getD i 0) (s.drop i) : Nat) := by rw [← h1]; unfold Em.judge; split <;> rfl
    rw [this]; omega
  · cases h
theorem Il.close_lt {s : List UInt8} {i j : Nat} (h : Lk.close s (i : Int) = some j) : j < s.length := by
  unfold Lk.close at h
  split at h
  · exact (Il.closeF_spec _ _ _ _ h).2
  · cases h
theorem Il.auto_len {s : List UInt8} {i : Nat} {t : List UInt8} {e : Nat} (h : Lk.auto s (i : Int) = some (t, e)) : t.length ≤ s.length := by
  unfold Lk.auto at h
  split at h
  · obtain ⟨j, hj, he⟩ := Option.map_eq_some_iff.1 h
    injection he with h1 h2
    rw [← h1]
    unfold mid
    rw [List.length_take, List.length_drop]; omega
  · cases h
theorem Il.span_len {s : List UInt8} {i : Nat} {t : List UInt8} {e : Nat} (h : Cd.span s (i : Int) = some (t, e)) : t.length + i ≤ e := by
  have hsp := Cd.span_spec h
  unfold Cd.span at h
  split at h
  · obtain ⟨j, hj, he⟩ := Option.map_eq_some_iff.1 h
    injection he with h1 h2
    have hc := Cd.clean_len (mid s ((i : Int).toNat + Fn.run 96 (s.drop (i : Int).toNat)) j)
    have hm : (mid s ((i : Int).toNat + Fn.run 96 (s.drop (i : Int).toNat)) j).length ≤ j - ((i : Int).toNat + Fn.run 96 (s.drop (i : Int).toNat)) := by unfold mid; rw [List.length_take]; omega
    rw [h1] at hc
    simp only [Int.toNat_natCast] at *
    omega
  · cases h
theorem spanV_form (x : Option (List UInt8 × Nat)) : ∃ (t : List UInt8) (e : Nat) (ok : Bool), spanV x = .tuple #[.string (bs t), .int .i64 (e : Int), .bool ok] := by
  cases x with
  | none => exact ⟨[], 0, false, rfl⟩
  | some x => exact ⟨x.1, x.2, true, rfl⟩
theorem placeV_form (x : Option Nat) : ∃ (e : Nat) (ok : Bool), placeV x = .tuple #[.int .i64 (e : Int), .bool ok] := by
  cases x with
  | none => exact ⟨0, false, rfl⟩
  | some x => exact ⟨x, true, rfl⟩
end Go.Proofs.YtkfhkfagmokjpaaDoor

namespace Go.Proofs.YtkfhkfagmokjpaaDoor.Il
open Go.Lib

theorem runes_few : ∀ (n : Nat) (l : List UInt8), l.length ≤ n → (Ru.runes l).length ≤ l.length
  | 0, l, h => by
    have : l = [] := List.eq_nil_of_length_eq_zero (by omega)
    subst this; simp [Ru.runes_nil]
  | n + 1, l, h => by
    by_cases h0 : l = []
    · subst h0; simp [Ru.runes_nil]
    · have hl : 0 < l.length := List.length_pos_iff.2 h0
      have hw := decodeL_width l
      have ih := runes_few n (l.drop (decodeL l).2) (by rw [List.length_drop]; omega)
      rw [Ru.runes_step h0, List.length_cons]
      rw [List.length_drop] at ih
      omega
theorem enc_few : ∀ X : List Nat, (Ru.enc X).length ≤ 4 * X.length
  | [] => by simp [Ru.enc_nil]
  | x :: X => by
    have := Ru.encodeRune_len (x : Int)
    have := enc_few X
    rw [Ru.enc_cons, List.length_append, List.length_cons]; omega
theorem auto_in {s : List UInt8} {i : Nat} {t : List UInt8} {e : Nat} (h : Lk.auto s (i : Int) = some (t, e)) : t.length + i ≤ e := by
  have hsp := Lk.auto_spec h
  unfold Lk.auto at h
  split at h
  · obtain ⟨j, hj, he⟩ := Option.map_eq_some_iff.1 h
    injection he with h1 h2
    rw [← h1]
    unfold Go.Proofs.YtkfhkfagmokjpaaDoor.mid
    rw [List.length_take, Int.toNat_natCast]
    omega
  · cases h
theorem pput_weight (l : List Pt) (s : List UInt8) : weight (pput l s) = weight l + s.length := by
  have h0 : weight ([] : List Pt) = 0 := rfl
  rcases pput_cases l s with ⟨l', t, d, k, n, c, rfl, h⟩ | h
  · rw [h, weight_append, weight_append, weight_cons, weight_cons, h0]
    simp only [eff_none, txt, List.length_append]
    omega
  · rw [h, weight_append, weight_cons, h0]
    simp only [word, eff_none, txt, txts, List.length_append]
    simp
theorem pput_few {l : List Pt} {s : List UInt8} (h : ∀ p ∈ l, Few p.inn) : ∀ p ∈ pput l s, Few p.inn := by
  intro p hp
  rcases pput_cases l s with ⟨l', t, d, k, n, c, rfl, e⟩ | e
  · rw [e] at hp
    rcases List.mem_append.1 hp with hp | hp
    · exact h p (by simp [hp])
    · obtain rfl := List.mem_singleton.1 hp
      exact few_text (h ⟨.mk 0 t d k, none, n, c⟩ (by simp)) _ _
  · rw [e] at hp
    rcases List.mem_append.1 hp with hp | hp
    · exact h p hp
    · obtain rfl := List.mem_singleton.1 hp
      exact few_bare (by omega) _ _
/-- not too much, up to a place -/
structure FewS (st : Sc) (i : Nat) : Prop where
  few : ∀ p ∈ st.l, Few p.inn
  weight : weight st.l ≤ 4 * i
theorem fews_put {st : Sc} {i e : Nat} (h : FewS st i) {s : List UInt8} (hs : s.length + 4 * i ≤ 4 * e) (runs : List Em.R) : FewS ⟨pput st.l s, runs⟩ e :=
  ⟨pput_few h.few, by have := h.weight; rw [pput_weight]; omega⟩
theorem fews_push {st : Sc} {i e : Nat} (h : FewS st i) {p : Pt} (hp : Few p.inn) (hw : (txt (eff p)).length + 4 * i ≤ 4 * e) (runs : List Em.R) : FewS ⟨st.l ++ [p], runs⟩ e := by
  have h0 : Il.weight ([] : List Pt) = 0 := rfl
  have := h.weight
  refine ⟨fun q hq => ?_, by rw [weight_append, weight_cons, h0]; omega⟩
  rcases List.mem_append.1 hq with hq | hq
  · exact h.few q hq
  · obtain rfl := List.mem_singleton.1 hq; exact hp
/-- what is asked of what stands within a link -/
def InnerOK (inner : List UInt8 → List In) : Prop := ∀ t, t.length ≤ 4000000 → (∀ y ∈ inner t, Few y) ∧ (inner t).length ≤ 1000000000 ∧ (txts (inner t)).length ≤ 4 * t.length
theorem piece_ok (link : Bool) (inner : List UInt8 → List In) (hin : link = false → InnerOK inner) {s : List UInt8} (hs : s.length ≤ 4000000) {i : Nat} (h : i < s.length) {st : Sc} (hok : ScOK st i) (hf : FewS st i) :
    ScOK (piece link inner s i st).2 (piece link inner s i st).1 ∧ FewS (piece link inner s i st).2 (piece link inner s i st).1 := by
  have hm := piece_more link inner h st
  unfold piece at hm ⊢
  by_cases h96 : s.getD i 0 = 96
  · rw [if_pos h96] at hm ⊢
    cases hsp : Cd.span s (i : Int) with
    | some x =>
      obtain ⟨t, e⟩ := x
      rw [hsp] at hm
      simp only at hm ⊢
      have hl := span_len hsp
      exact ⟨scok_push hok hm.1 (by simp only [tlen]; omega), fews_push hf (few_bare (by omega) _ _) (by simp [eff_none, txt, txts]; omega) _⟩
    | none =>
      rw [hsp] at hm
      simp only at hm ⊢
      have hml := Go.Proofs.YtkfhkfagmokjpaaDoor.mid_len (l := s) (lo := i) (hi := i + Fn.run 96 (s.drop i)) hm.2
      exact ⟨scok_put hok hm.1 (by omega), fews_put hf (by omega) _⟩
  · rw [if_neg h96] at hm ⊢
    cases ha : (if link = true then none else Lk.auto s (i : Int)) with
    | some x =>
      obtain ⟨t, e⟩ := x
      rw [ha] at hm
      simp only at hm ⊢
      split at ha
      · cases ha
      · have hl := auto_in ha
        have h1 := enc_few (Ru.runes t)
        have h2 := runes_few t.length t (Nat.le_refl _)
        exact ⟨scok_push hok hm.1 (by simp [tlen]), fews_push hf (.mk (by omega) (by simp) (fun x hx => by obtain rfl := List.mem_singleton.1 hx; exact few_bare (by omega) _ _)) (by simp [eff_none, txt, txts, word]; omega) _⟩
    | none =>
      rw [ha] at hm
      simp only at hm ⊢
      cases hl : (if link = true then none else linkAt s i) with
      | some x =>
        obtain ⟨d, j, e⟩ := x
        rw [hl] at hm
        simp only at hm ⊢
        split at hl
        · cases hl
        · rename_i hlf
          have h3 := link_spec hl
          have hml := Go.Proofs.YtkfhkfagmokjpaaDoor.mid_len (l := s) (lo := i + 1) (hi := j) (by omega)
          obtain ⟨f1, f2, f3⟩ := hin (by simpa using hlf) (Go.Proofs.YtkfhkfagmokjpaaDoor.mid s (i + 1) j) (by omega)
          exact ⟨scok_push hok hm.1 (by simp [tlen]), fews_push hf (.mk (by omega) f2 f1) (by simp [eff_none, txt]; omega) _⟩
      | none =>
        rw [hl] at hm
        simp only at hm ⊢
        cases hk : Em.kind s (i : Int) with
        | some x =>
          obtain ⟨r, e⟩ := x
          rw [hk] at hm
          simp only at hm ⊢
          have hn := kind_n hk
          exact ⟨scok_run hok hm.1 hn (by omega), fews_push hf (few_bare (by omega) _ _) (by simp [none_, eff_some, txt, txts, hn]; omega) _⟩
        | none =>
          rw [hk] at hm
          simp only at hm ⊢
          by_cases h10 : s.getD i 0 = 10
          · rw [if_pos h10] at hm ⊢
            exact ⟨scok_push hok hm.1 (by simp [tlen]), fews_push hf (few_bare (by omega) _ _) (by simp [eff_none, txt, txts]; omega) _⟩
          · rw [if_neg h10] at hm ⊢
            have he := Ru.encodeRune_len ((Es.next s i).1 : Int)
            simp only at hm ⊢
            exact ⟨scok_put hok hm.1 (by omega), fews_put hf (by omega) _⟩
theorem scanF_ok (link : Bool) (inner : List UInt8 → List In) (hin : link = false → InnerOK inner) {s : List UInt8} (hs : s.length ≤ 4000000) : ∀ (f i : Nat) (st : Sc), i ≤ s.length → ScOK st i → FewS st i → ∃ j, j ≤ s.length ∧ ScOK (scanF link inner f s i st) j ∧ FewS (scanF link inner f s i st) j
  | 0, i, st, hi, h1, h2 => ⟨i, hi, h1, h2⟩
  | f + 1, i, st, hi, h1, h2 => by
    unfold scanF
    by_cases h : i < s.length
    · rw [if_pos h]
      have hm := piece_more link inner h st
      obtain ⟨k1, k2⟩ := piece_ok link inner hin hs h h1 h2
      exact scanF_ok link inner hin hs f _ _ hm.2 k1 k2
    · rw [if_neg h]; exact ⟨i, hi, h1, h2⟩
theorem within_ok (link : Bool) (inner : List UInt8 → List In) (hin : link = false → InnerOK inner) : InnerOK (within link inner) := by
  intro s hs
  obtain ⟨j, hj, h1, h2⟩ := scanF_ok link inner hin hs (s.length + 1 - 0) 0 ⟨[], []⟩ (Nat.zero_le _) scok_start ⟨by simp, by simp [weight]⟩
  have hl := h1.len
  have hr := h1.rlen
  have hw := h2.weight
  obtain ⟨s1, s2, s3⟩ := stress_few (scok_ready h1) h2.few (by omega) (by omega)
  exact ⟨s1, s2, Nat.le_trans s3 (by omega)⟩
/-- what a text is parted into -/
theorem parse_ok : InnerOK parse := within_ok false inLink (fun _ => within_ok true (fun _ => []) (fun h => absurd h (by decide)))
end Go.Proofs.YtkfhkfagmokjpaaDoor.Il

namespace Go.Proofs.YtkfhkfagmokjpaaDoor.Il
open Go.Lib

def kindOf : In → Nat | .mk k _ _ _ => k
def textOf : In → List UInt8 | .mk _ t _ _ => t
def isPlain (x : In) : Bool := kindOf x == 0
mutual
/-- as an inline may be (link: whether one is around it) -/
def okI (link : Bool) : In → Bool
  | .mk k _ _ ks => decide (k ≤ 5) && !(link && k == 4) && (ks.isEmpty || k == 2 || k == 3 || k == 4) && okL (link || k == 4) false ks
def okL (link prev : Bool) : List In → Bool
  | [] => true
  | x :: r => okI link x && !(isPlain x && ((textOf x).isEmpty || prev)) && okL link (isPlain x) r
end
/-- whether the last one is plain -/
def lastP (prev : Bool) : List In → Bool
  | [] => prev
  | x :: r => lastP (isPlain x) r
theorem lastP_snoc : ∀ (a : List In) (p : Bool) (x : In), lastP p (a ++ [x]) = isPlain x
  | [], _, _ => rfl
  | y :: a, _, x => by rw [List.cons_append]; unfold lastP; exact lastP_snoc a _ x
theorem okL_append (link : Bool) : ∀ (a b : List In) (p : Bool), okL link p (a ++ b) = (okL link p a && okL link (lastP p a) b)
  | [], b, p => by simp [okL, lastP]
  | x :: a, b, p => by rw [List.cons_append]; simp only [okL, lastP]; rw [okL_append link a b]; simp only [Bool.and_assoc]
theorem okL_one (link p : Bool) (x : In) : okL link p [x] = (okI link x && !(isPlain x && ((textOf x).isEmpty || p))) := by simp [okL]
theorem okL_snoc (link p : Bool) (a : List In) (x : In) : okL link p (a ++ [x]) = (okL link p a && (okI link x && !(isPlain x && ((textOf x).isEmpty || lastP p a)))) := by rw [okL_append, okL_one]
theorem okI_text (link : Bool) (k : Nat) (t d t' d' : List UInt8) (ks : List In) : okI link (.mk k t d ks) = okI link (.mk k t' d' ks) := by simp only [okI]
theorem empty_no {t : List UInt8} (h : t ≠ []) : t.isEmpty = false := by cases t <;> simp_all
theorem iput_ok {link : Bool} {out : List In} {x : In} (h : okL link false out = true) (hx : okI link x = true) : okL link false (iput out x) = true := by
  obtain ⟨kd, t, d, ks⟩ := x
  by_cases hk : kd = 0
  · subst hk
    by_cases ht : t = []
    · subst ht; rw [iput_empty]; exact h
    · rcases List.eq_nil_or_concat out with rfl | ⟨o, y, rfl⟩
      · rw [iput_first ht, okL_one, hx]; simp [textOf, ht]
      · rw [List.concat_eq_append] at h ⊢
        obtain ⟨kd', t', d', ks'⟩ := y
        by_cases hk' : kd' = 0
        · subst hk'
          rw [iput_join o ht, okL_snoc, okI_text link 0 (t' ++ t) d' t' d' ks']
          rw [okL_snoc] at h
          simp only [Bool.and_eq_true, Bool.not_eq_true', isPlain, kindOf, textOf, beq_self_eq_true, Bool.true_and, Bool.or_eq_false_iff] at h ⊢
          exact ⟨h.1, h.2.1, by simp [ht], h.2.2.2⟩
        · rw [iput_apart o ht hk', okL_snoc, h, lastP_snoc, hx]
          simp [textOf, ht, isPlain, kindOf, hk']
  · rw [iput_kind out hk, okL_snoc, h, hx]
    simp [isPlain, kindOf, hk]
theorem okI_eff {link : Bool} {p : Pt} (h : okI link p.inn = true) : okI link (eff p) = true := by
  obtain ⟨⟨k, t, d, ks⟩, r, n, c⟩ := p
  cases r with
  | none => exact h
  | some r => rw [eff_some, okI_text link k _ d t d ks]; exact h
theorem settle_ok {link : Bool} : ∀ (l : List Pt) (out : List In), okL link false out = true → (∀ p ∈ l, okI link p.inn = true) → okL link false (l.foldl (fun out p => iput out (eff p)) out) = true
  | [], _, h, _ => h
  | p :: l, out, h, hl => by
    rw [List.foldl_cons]
    exact settle_ok l _ (iput_ok h (okI_eff (hl p (by simp)))) (fun q hq => hl q (by simp [hq]))
theorem join_ok {link : Bool} {l : List Pt} {a b s : Nat} (hs : (rns l).Pairwise (· < ·)) (ha : a ∈ rns l) (hb : b ∈ rns l) (hab : a < b) (hf : ∀ p ∈ l, okI link p.inn = true) : ∀ p ∈ joinPair l (a, b, s), okI link p.inn = true := by
  obtain ⟨A, p, B, q, C, rfl, hp, hq, h1, h2, _, _, _⟩ := place_two hs ha hb hab
  rw [joinPair_eq h1 h2]
  have k1 : okL link false (settle B) = true := settle_ok B [] rfl (fun x hx => hf x (by simp [hx]))
  intro x hx
  simp only [List.mem_append, List.mem_cons] at hx
  rcases hx with hx | rfl | rfl | rfl | hx
  · exact hf x (by simp [hx])
  · exact hf p (by simp)
  · show okI link (.mk (if s = 2 then 3 else 2) [] [] (settle B)) = true
    by_cases h2 : s = 2
    · rw [if_pos h2]; simp [okI, k1]
    · rw [if_neg h2]; simp [okI, k1]
  · exact hf q (by simp)
  · exact hf x (by simp [hx])
theorem stress_ok {link : Bool} {l : List Pt} {runs : List Em.R} (h : Ready l runs) (hf : ∀ p ∈ l, okI link p.inn = true) : okL link false (stress l runs) = true := by
  have key : ∀ k, k ≤ (Em.pairs runs).length → (∀ p ∈ behindP l (Em.pairs runs) k, okI link p.inn = true) := by
    intro k
    induction k with
    | zero => intro _; simpa [behindP] using hf
    | succ k ih =>
      intro hk
      have hk' : k < (Em.pairs runs).length := by omega
      have i := ih (by omega)
      have hh := holds_all h k (by omega)
      have ht := hh.there k hk' (Nat.le_refl _)
      have hg := good_pairs runs _ (List.getElem_mem hk')
      rw [behind_next hk']
      exact join_ok (s := (Em.pairs runs)[k].2.2) hh.sorted ht.1 ht.2 hg.1 i
  have e : stress l runs = settle (behindP l (Em.pairs runs) (Em.pairs runs).length) := by unfold stress behindP; rw [List.take_of_length_le (Nat.le_refl _)]
  rw [e]
  exact settle_ok _ [] rfl (key _ (Nat.le_refl _))
theorem put_right {link : Bool} {l : List Pt} {s : List UInt8} (h : ∀ p ∈ l, okI link p.inn = true) : ∀ p ∈ pput l s, okI link p.inn = true := by
  intro p hp
  rcases pput_cases l s with ⟨l', t, d, k, n, c, rfl, e⟩ | e
  · rw [e] at hp
    rcases List.mem_append.1 hp with hp | hp
    · exact h p (by simp [hp])
    · obtain rfl := List.mem_singleton.1 hp
      have := h ⟨.mk 0 t d k, none, n, c⟩ (by simp)
      show okI link (.mk 0 (t ++ s) d k) = true
      rw [okI_text link 0 (t ++ s) d t d k]; exact this
  · rw [e] at hp
    rcases List.mem_append.1 hp with hp | hp
    · exact h p hp
    · obtain rfl := List.mem_singleton.1 hp
      simp [word, okI, okL]
theorem push_right {link : Bool} {l : List Pt} {q : Pt} (h : ∀ p ∈ l, okI link p.inn = true) (hq : okI link q.inn = true) : ∀ p ∈ l ++ [q], okI link p.inn = true := by
  intro p hp
  rcases List.mem_append.1 hp with hp | hp
  · exact h p hp
  · obtain rfl := List.mem_singleton.1 hp; exact hq
theorem auto_full {s : List UInt8} {i : Nat} {t : List UInt8} {e : Nat} (h : Lk.auto s (i : Int) = some (t, e)) : t ≠ [] := by
  unfold Lk.auto at h
  split at h
  · rename_i hc
    have h2 := hc.2
    unfold Lk.starts at h2
    have h3 := of_decide_eq_true h2
    obtain ⟨j, hj, he⟩ := Option.map_eq_some_iff.1 h
    injection he with h1 _
    have hsp := Lk.ends_spec _ _ _ hj
    rw [Int.toNat_natCast] at hsp h1 h3
    intro h0
    have := congrArg List.length h1
    rw [h0, Go.Proofs.YtkfhkfagmokjpaaDoor.mid_len (by omega)] at this
    simp at this
    omega
  · cases h
theorem runes_full {t : List UInt8} (h : t ≠ []) : Ru.enc (Ru.runes t) ≠ [] := by
  intro h0
  have := (Ru.enc_eq_nil).1 h0
  rw [Ru.runes_step h] at this
  cases this
theorem piece_right (link : Bool) (inner : List UInt8 → List In) (hin : link = false → ∀ t, t.length ≤ 4000000 → okL true false (inner t) = true) {s : List UInt8} (hs : s.length ≤ 4000000) {i : Nat} (_h : i < s.length) {st : Sc} (hf : ∀ p ∈ st.l, okI link p.inn = true) :
    ∀ p ∈ (piece link inner s i st).2.l, okI link p.inn = true := by
  unfold piece
  by_cases h96 : s.getD i 0 = 96
  · rw [if_pos h96]
    cases hsp : Cd.span s (i : Int) with
    | some x => exact push_right hf (by simp [okI, okL])
    | none => exact put_right hf
  · rw [if_neg h96]
    cases ha : (if link = true then none else Lk.auto s (i : Int)) with
    | some x =>
      obtain ⟨t, e⟩ := x
      split at ha
      · cases ha
      · rename_i hlf
        have hl0 : link = false := by simpa using hlf
        subst hl0
        refine push_right hf ?_
        have := runes_full (auto_full ha)
        simp [okI, okL, word, isPlain, kindOf, textOf, this]
    | none =>
      simp only
      cases hl : (if link = true then none else linkAt s i) with
      | some x =>
        obtain ⟨d, j, e⟩ := x
        split at hl
        · cases hl
        · rename_i hlf
          have hl0 : link = false := by simpa using hlf
          subst hl0
          refine push_right hf ?_
          have h3 := link_spec hl
          have hml := Go.Proofs.YtkfhkfagmokjpaaDoor.mid_len (l := s) (lo := i + 1) (hi := j) (by omega)
          have := hin rfl (Go.Proofs.YtkfhkfagmokjpaaDoor.mid s (i + 1) j) (by omega)
          simp [okI, this]
      | none =>
        simp only
        cases hk : Em.kind s (i : Int) with
        | some x => exact push_right hf (by simp [none_, okI, okL])
        | none =>
          simp only
          by_cases h10 : s.getD i 0 = 10
          · rw [if_pos h10]; exact push_right hf (by simp [okI, okL])
          · rw [if_neg h10]; exact put_right hf
theorem scanF_right (link : Bool) (inner : List UInt8 → List In) (hok : link = false → InnerOK inner) (hin : link = false → ∀ t, t.length ≤ 4000000 → okL true false (inner t) = true) {s : List UInt8} (hs : s.length ≤ 4000000) : ∀ (f i : Nat) (st : Sc), i ≤ s.length → ScOK st i → FewS st i → (∀ p ∈ st.l, okI link p.inn = true) →
    ∃ j, j ≤ s.length ∧ ScOK (scanF link inner f s i st) j ∧ ∀ p ∈ (scanF link inner f s i st).l, okI link p.inn = true
  | 0, i, st, hi, h1, _, h3 => ⟨i, hi, h1, h3⟩
  | f + 1, i, st, hi, h1, h2, h3 => by
    unfold scanF
    by_cases h : i < s.length
    · rw [if_pos h]
      have hm := piece_more link inner h st
      obtain ⟨k1, k2⟩ := piece_ok link inner hok hs h h1 h2
      exact scanF_right link inner hok hin hs f _ _ hm.2 k1 k2 (piece_right link inner hin hs h h3)
    · rw [if_neg h]; exact ⟨i, hi, h1, h3⟩
theorem within_right (link : Bool) (inner : List UInt8 → List In) (hok : link = false → InnerOK inner) (hin : link = false → ∀ t, t.length ≤ 4000000 → okL true false (inner t) = true) {s : List UInt8} (hs : s.length ≤ 4000000) : okL link false (within link inner s) = true := by
  obtain ⟨j, hj, h1, h2⟩ := scanF_right link inner hok hin hs (s.length + 1 - 0) 0 ⟨[], []⟩ (Nat.zero_le _) scok_start ⟨by simp, by simp [weight]⟩ (by simp)
  exact stress_ok (scok_ready h1) h2
theorem inLink_ok : InnerOK inLink := within_ok true (fun _ => []) (fun h => absurd h (by decide))
theorem parse_right {s : List UInt8} (hs : s.length ≤ 4000000) : okL false false (parse s) = true :=
  within_right false inLink (fun _ => inLink_ok) (fun _ _ ht => within_right true (fun _ => []) (fun h => absurd h (by decide)) (fun h => absurd h (by decide)) ht) hs
end Go.Proofs.YtkfhkfagmokjpaaDoor.Il
