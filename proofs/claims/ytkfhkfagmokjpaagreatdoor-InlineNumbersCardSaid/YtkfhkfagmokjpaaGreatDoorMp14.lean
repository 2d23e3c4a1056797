/- Inlines, by no program: rows that grow, their plain end kept apart; what is read of a text as such rows. Memory of a call's own, part by part: structs' blocks, rows, a map, each in a block of its own; blocks that are no part are let alone. Rows of inlines that grow. No function of the program is spoken of here. utf8.AppendRune onto bytes of the call's own: what is written, and where it lies then. Package inline's rows: last, sayRune, say. Stores as makers of a tree. Package inline's rows: all. Rows behind one another, or within one another, in memory: a row of rows, each with two rows of its own. No function of the program is spoken of here. Package inline's rows: put. Package inline's rows: say. Package emph: whether a run begins, on which side it leans; package code: how many signs stand in a row. The document's own judging of a run, at the beginning, *. The document's own judging of a run, at the beginning, _. The document's own judging of a run, further on, *. -/
import Derived.Test.YtkfhkfagmokjpaaGreatDoorMp13
import Derived.Test.YtkfhkfagmokjpaaGreatDoorMp04
import Derived.Test.YtkfhkfagmokjpaaGreatDoorMp12
import Derived.Maps.OwnSet
import Derived.Maps.OwnOps
import Derived.Lib.RuneBytes
import Derived.Test.YtkfhkfagmokjpaaGreatDoorMp11
import Derived.Deep.DeepCutAuto
import Derived.Test.YtkfhkfagmokjpaaGreatDoorMp05
namespace Go.Proofs.YtkfhkfagmokjpaaGreatDoor.Il
open Go.Lib

/-- a text of runes -/
def V8 (t : List UInt8) : Prop := ∃ V : List Nat, (∀ x ∈ V, Ru.vr x) ∧ t = Ru.enc V
theorem v8_nil : V8 [] := ⟨[], by simp, rfl⟩
theorem v8_append {a b : List UInt8} (ha : V8 a) (hb : V8 b) : V8 (a ++ b) := by
  obtain ⟨A, h1, rfl⟩ := ha
  obtain ⟨B, h2, rfl⟩ := hb
  exact ⟨A ++ B, fun x hx => (List.mem_append.1 hx).elim (h1 x) (h2 x), (Ru.enc_append A B).symm⟩
theorem v8_runes {t : List UInt8} (h : V8 t) : Ru.enc (Ru.runes t) = t := by
  obtain ⟨V, h1, rfl⟩ := h; rw [Ru.runes_enc h1]
theorem v8_one {r : Nat} (h : Ru.vr r) : V8 (encodeRune (r : Int)) := ⟨[r], by simpa using h, by simp [Ru.enc]⟩
theorem v8_low {b : UInt8} (h : b.toNat < 128) (n : Nat) : V8 (List.replicate n b) := by
  induction n with
  | zero => exact v8_nil
  | succ n ih =>
    rw [List.replicate_succ]
    have : V8 [b] := by
      have e : encodeRune ((b.toNat : Nat) : Int) = [b] := by
        unfold encodeRune
        rw [encodeRuneZ_one (by omega) (by omega)]
        simp
      rw [← e]; exact v8_one (by unfold Ru.vr; omega)
    exact v8_append this ih

/-- a row that grows: its inlines, the plain text at its end -/
structure Rw where
  l : List In
  p : List UInt8
def Rw.full (R : Rw) : List In := R.l ++ if R.p = [] then [] else [word R.p]
def Rw.nil : Rw := ⟨[], []⟩
structure Rw.ok (R : Rw) : Prop where
  last : ∀ o t d ks, R.l ≠ o ++ [.mk 0 t d ks]
  wd : ∀ y ∈ R.l, Wd y
  v8 : V8 R.p
  v8s : ∀ t d ks, In.mk 0 t d ks ∈ R.l → V8 t
def Rw.say (R : Rw) (s : List UInt8) : Rw := ⟨R.l, R.p ++ s⟩
def Rw.put (R : Rw) (x : In) : Rw := ⟨R.full ++ [x], []⟩
def Rw.step (R : Rw) (x : In) : Rw :=
  match x with
  | .mk 0 t _ _ => R.say t
  | x => R.put x
def Rw.join (R v : Rw) : Rw := (v.l.foldl Rw.step R).say v.p
theorem Rw.ok_nil : Rw.nil.ok := ⟨fun o t d ks h => by simp [Rw.nil] at h, by simp [Rw.nil], v8_nil, by simp [Rw.nil]⟩
theorem Rw.full_nil : Rw.nil.full = [] := rfl
theorem Rw.step_kind (R : Rw) {k : Nat} (h : k ≠ 0) (t d : List UInt8) (ks : List In) : R.step (.mk k t d ks) = R.put (.mk k t d ks) := by
  unfold Rw.step
  split
  · rename_i e; injection e with e; exact absurd e h
  · rfl
section
variable {R v : Rw}
theorem Rw.full_say (h : R.ok) (s : List UInt8) : (R.say s).full = iput R.full (word s) := by
  unfold Rw.full Rw.say
  simp only
  by_cases hs : s = []
  · subst hs
    rw [List.append_nil]
    exact (iput_empty _ [] []).symm
  · rw [if_neg (by simp [hs])]
    by_cases hp : R.p = []
    · rw [hp, if_pos rfl, List.append_nil, List.nil_append]
      rcases List.eq_nil_or_concat R.l with e | ⟨o, y, e⟩
      · rw [e]; exact (iput_first hs [] []).symm
      · rw [e, List.concat_eq_append]
        obtain ⟨ky, t, d, ks⟩ := y
        have hk : ky ≠ 0 := fun hk => by subst hk; exact h.last o t d ks (by rw [e, List.concat_eq_append])
        exact (iput_apart o hs hk t d [] ks []).symm
    · rw [if_neg hp]
      exact (iput_join R.l hs R.p [] [] [] []).symm
theorem Rw.full_put (R : Rw) {k : Nat} (hk : k ≠ 0) (t d : List UInt8) (ks : List In) : (R.put (.mk k t d ks)).full = iput R.full (.mk k t d ks) := by
  rw [iput_kind _ hk]; unfold Rw.put Rw.full; simp
theorem Rw.full_wd (h : R.ok) : ∀ y ∈ R.full, Wd y := by
  intro y hy
  unfold Rw.full at hy
  rcases List.mem_append.1 hy with hy | hy
  · exact h.wd y hy
  · split at hy
    · cases hy
    · obtain rfl := List.mem_singleton.1 hy; exact wd_word _
theorem Rw.ok_say (h : R.ok) {s : List UInt8} (hs : V8 s) : (R.say s).ok := ⟨h.last, h.wd, v8_append h.v8 hs, h.v8s⟩
theorem Rw.ok_put (h : R.ok) {k : Nat} (hk : k ≠ 0) (t d : List UInt8) (ks : List In) : (R.put (.mk k t d ks)).ok := by
  refine ⟨fun o t' d' ks' e => ?_, fun y hy => ?_, v8_nil, fun t' d' ks' hm => ?_⟩
  · have := (List.append_inj' e rfl).2
    injection this with this; injection this with this; exact hk this
  · rcases List.mem_append.1 hy with hy | hy
    · exact Rw.full_wd h y hy
    · obtain rfl := List.mem_singleton.1 hy; exact wd_kind hk _ _ _
  · rcases List.mem_append.1 hm with hm | hm
    · unfold Rw.full at hm
      rcases List.mem_append.1 hm with hm | hm
      · exact h.v8s _ _ _ hm
      · split at hm
        · cases hm
        · have := List.mem_singleton.1 hm
          unfold word at this
          injection this with _ e; rw [e]; exact h.v8
    · have := List.mem_singleton.1 hm
      injection this with e; exact absurd e.symm hk
theorem Rw.step_all (h : R.ok) (x : In) (hx : Wd x) (hv : ∀ t d ks, x = .mk 0 t d ks → V8 t) : (R.step x).ok ∧ (R.step x).full = iput R.full x := by
  obtain ⟨k, t, d, ks⟩ := x
  by_cases hk : k = 0
  · subst hk
    obtain ⟨rfl, rfl⟩ := hx t d ks rfl
    exact ⟨Rw.ok_say h (hv _ _ _ rfl), Rw.full_say h t⟩
  · rw [Rw.step_kind R hk]
    exact ⟨Rw.ok_put h hk t d ks, Rw.full_put R hk t d ks⟩
theorem Rw.steps_all : ∀ (F : List In) (R : Rw), R.ok → (∀ y ∈ F, Wd y) → (∀ t d ks, In.mk 0 t d ks ∈ F → V8 t) → (F.foldl Rw.step R).ok ∧ (F.foldl Rw.step R).full = puts R.full F
  | [], R, h, _, _ => ⟨h, rfl⟩
  | x :: F, R, h, hw, hv => by
    obtain ⟨h1, h2⟩ := Rw.step_all h x (hw x (by simp)) (fun t d ks e => hv t d ks (by simp [e]))
    obtain ⟨h3, h4⟩ := Rw.steps_all F (R.step x) h1 (fun y hy => hw y (by simp [hy])) (fun t d ks hm => hv t d ks (by simp [hm]))
    exact ⟨h3, by rw [List.foldl_cons, h4, h2]; rfl⟩
theorem Rw.join_all (h : R.ok) (hv : v.ok) : (R.join v).ok ∧ (R.join v).full = puts R.full v.full := by
  obtain ⟨h1, h2⟩ := Rw.steps_all v.l R h hv.wd hv.v8s
  refine ⟨Rw.ok_say h1 hv.v8, ?_⟩
  unfold Rw.join
  rw [Rw.full_say h1, h2]
  obtain ⟨O, hO⟩ : ∃ O, O = R.full := ⟨_, rfl⟩
  rw [← hO]
  unfold Rw.full
  rw [puts_append]
  by_cases e : v.p = []
  · rw [if_pos e, e]
    exact iput_empty _ [] []
  · rw [if_neg e]; rfl
end
/-! ### how much -/
def Rw.wt (R : Rw) : Nat := R.l.length + R.p.length + otlen R.l
theorem otlen_append (a b : List In) : otlen (a ++ b) = otlen a + otlen b := by simp [otlen]
theorem Rw.wt_say (R : Rw) (s : List UInt8) : (R.say s).wt = R.wt + s.length := by
  unfold Rw.wt Rw.say; simp only [List.length_append]; omega
theorem Rw.wt_full (R : Rw) : R.full.length ≤ R.l.length + 1 ∧ otlen R.full = otlen R.l + R.p.length := by
  unfold Rw.full
  split
  · rename_i e; rw [e]; simp
  · rw [otlen_append]; simp [otlen, word, tlen]
theorem Rw.wt_put (R : Rw) (x : In) : (R.put x).wt ≤ R.wt + 2 + tlen x := by
  have := R.wt_full
  unfold Rw.wt Rw.put
  simp only [List.length_append, List.length_singleton, List.length_nil]
  rw [otlen_append]
  have e : otlen [x] = tlen x := by simp [otlen]
  omega
theorem Rw.wt_step (R : Rw) (x : In) : (R.step x).wt ≤ R.wt + 2 + tlen x := by
  obtain ⟨k, t, d, ks⟩ := x
  by_cases hk : k = 0
  · subst hk; show (R.say t).wt ≤ _; rw [Rw.wt_say]; simp only [tlen]; omega
  · rw [Rw.step_kind R hk]; exact Rw.wt_put R _
theorem Rw.wt_steps : ∀ (F : List In) (R : Rw), (F.foldl Rw.step R).wt ≤ R.wt + 2 * F.length + otlen F
  | [], R => by simp [otlen]
  | x :: F, R => by
    have h1 := Rw.wt_steps F (R.step x)
    have h2 := Rw.wt_step R x
    have h3 : otlen (x :: F) = tlen x + otlen F := by simp [otlen]
    rw [List.foldl_cons, List.length_cons]; omega
theorem Rw.wt_join (R v : Rw) : (R.join v).wt ≤ R.wt + 2 * v.wt := by
  unfold Rw.join
  rw [Rw.wt_say]
  have := Rw.wt_steps v.l R
  unfold Rw.wt at this ⊢
  omega
def wts (rs : List Rw) : Nat := (rs.map Rw.wt).sum
theorem wts_append (a b : List Rw) : wts (a ++ b) = wts a + wts b := by simp [wts]
theorem wts_cons (R : Rw) (b : List Rw) : wts (R :: b) = R.wt + wts b := by simp [wts]
theorem wts_mem : ∀ {rs : List Rw} {R : Rw}, R ∈ rs → R.wt ≤ wts rs
  | x :: rs, R, h => by
    rw [wts_cons]
    rcases List.mem_cons.1 h with rfl | h
    · omega
    · have := wts_mem h; omega

/-! ### the last one of a list -/
def lastI {α : Type} (f : α → α) : List α → List α
  | [] => []
  | [x] => [f x]
  | x :: y :: r => x :: lastI f (y :: r)
theorem lastI_snoc {α : Type} (f : α → α) : ∀ (l : List α) (x : α), lastI f (l ++ [x]) = l ++ [f x]
  | [], x => rfl
  | [y], x => rfl
  | y :: z :: l, x => by
    have := lastI_snoc f (z :: l) x
    show y :: lastI f ((z :: l) ++ [x]) = _
    rw [this]; rfl
theorem lastI_ne {α : Type} {f : α → α} {l : List α} (h : l ≠ []) : lastI f l ≠ [] := by
  rcases List.eq_nil_or_concat l with e | ⟨o, y, e⟩
  · exact absurd e h
  · rw [e, List.concat_eq_append, lastI_snoc]; simp
theorem lastI_len {α : Type} (f : α → α) (l : List α) : (lastI f l).length = l.length := by
  rcases List.eq_nil_or_concat l with e | ⟨o, y, e⟩
  · rw [e]; rfl
  · rw [e, List.concat_eq_append, lastI_snoc]; simp
theorem lastI_set {α : Type} (f : α → α) {l : List α} {k : Nat} (hk : k + 1 = l.length) (h : k < l.length) : lastI f l = l.set k (f l[k]) := by
  rcases List.eq_nil_or_concat l with e | ⟨o, y, e⟩
  · subst e; simp at h
  · rw [List.concat_eq_append] at e
    subst e
    have : k = o.length := by simpa using hk
    subst this
    rw [lastI_snoc]
    simp
theorem lastI_map {α β : Type} {f : α → α} {f' : β → β} {g : α → β} {l : List α} (h : ∀ x ∈ l, g (f x) = f' (g x)) : (lastI f l).map g = lastI f' (l.map g) := by
  rcases List.eq_nil_or_concat l with e | ⟨o, y, e⟩
  · rw [e]; rfl
  · rw [e, List.concat_eq_append] at h ⊢
    rw [lastI_snoc, List.map_append, List.map_append, List.map_singleton, List.map_singleton, lastI_snoc, h y (by simp)]
theorem lastI_mem {α : Type} {f : α → α} {P : α → Prop} {l : List α} (h : ∀ x ∈ l, P x) (hf : ∀ x, P x → P (f x)) : ∀ x ∈ lastI f l, P x := by
  rcases List.eq_nil_or_concat l with e | ⟨o, y, e⟩
  · rw [e]; intro x hx; cases hx
  · rw [e, List.concat_eq_append] at h ⊢
    rw [lastI_snoc]
    intro x hx
    rcases List.mem_append.1 hx with hx | hx
    · exact h x (by simp [hx])
    · obtain rfl := List.mem_singleton.1 hx; exact hf y (h y (by simp))
theorem lastI_lastI {α : Type} (f g : α → α) (l : List α) : lastI f (lastI g l) = lastI (fun x => f (g x)) l := by
  rcases List.eq_nil_or_concat l with e | ⟨o, y, e⟩
  · rw [e]; rfl
  · rw [e, List.concat_eq_append, lastI_snoc, lastI_snoc, lastI_snoc]
theorem wts_lastI {f : Rw → Rw} {k : Nat} (hf : ∀ R, (f R).wt ≤ R.wt + k) (rs : List Rw) : wts (lastI f rs) ≤ wts rs + k := by
  rcases List.eq_nil_or_concat rs with e | ⟨o, y, e⟩
  · rw [e]; simp [lastI, wts]
  · rw [e, List.concat_eq_append, lastI_snoc, wts_append, wts_append, wts_cons, wts_cons]
    have := hf y
    have : wts [] = 0 := rfl
    omega

/-! ### parts as rows, with runs between -/
def rowsL : List Pt → List (List In)
  | [] => [[]]
  | p :: l =>
    match p.run with
    | none => (match rowsL l with | F :: Fs => (p.inn :: F) :: Fs | [] => [[p.inn]])
    | some _ => [] :: rowsL l
theorem rowsL_ne : ∀ l, rowsL l ≠ []
  | [] => by simp [rowsL]
  | p :: l => by
    unfold rowsL
    cases p.run with
    | some r => simp
    | none =>
      simp only
      split <;> simp
theorem rowsL_put : ∀ (l : List Pt) (x : In) (n : Nat) (c : UInt8), rowsL (l ++ [⟨x, none, n, c⟩]) = lastI (fun F => F ++ [x]) (rowsL l)
  | [], x, n, c => rfl
  | p :: l, x, n, c => by
    have ih := rowsL_put l x n c
    rw [List.cons_append]
    unfold rowsL
    rw [ih]
    have hne := rowsL_ne l
    cases p.run with
    | some r =>
      simp only
      cases hl : rowsL l with
      | nil => exact absurd hl hne
      | cons F Fs => rfl
    | none =>
      simp only
      cases hl : rowsL l with
      | nil => exact absurd hl hne
      | cons F Fs =>
        cases Fs with
        | nil => rfl
        | cons G Gs => rfl
theorem rowsL_run : ∀ (l : List Pt) (x : In) (r n : Nat) (c : UInt8), rowsL (l ++ [⟨x, some r, n, c⟩]) = rowsL l ++ [[]]
  | [], x, r, n, c => rfl
  | p :: l, x, r, n, c => by
    have ih := rowsL_run l x r n c
    rw [List.cons_append]
    unfold rowsL
    rw [ih]
    have hne := rowsL_ne l
    cases p.run with
    | some r => rfl
    | none =>
      simp only
      cases hl : rowsL l with
      | nil => exact absurd hl hne
      | cons F Fs => rfl
def rowsM (l : List Pt) : List (List In) := (rowsL l).map (puts [])
theorem rowsM_put (l : List Pt) (x : In) (n : Nat) (c : UInt8) : rowsM (l ++ [⟨x, none, n, c⟩]) = lastI (fun F => iput F x) (rowsM l) := by
  unfold rowsM
  rw [rowsL_put]
  exact lastI_map fun F _ => by rw [puts_append, puts_one]
theorem rowsM_run (l : List Pt) (x : In) (r n : Nat) (c : UInt8) : rowsM (l ++ [⟨x, some r, n, c⟩]) = rowsM l ++ [[]] := by
  unfold rowsM
  rw [rowsL_run, List.map_append]; rfl
theorem rowsM_pput {l : List Pt} (hw : ∀ p ∈ l, Wd p.inn) (s : List UInt8) : rowsM (pput l s) = lastI (fun F => iput F (word s)) (rowsM l) := by
  rcases pput_cases l s with ⟨l', t, d, k, n, c, rfl, h⟩ | h
  · obtain ⟨rfl, rfl⟩ := hw ⟨.mk 0 t d k, none, n, c⟩ (by simp) t d k rfl
    rw [h, rowsM_put, rowsM_put, lastI_lastI]
    congr 1
    funext F
    exact (iput_two F t s).symm
  · rw [h, rowsM_put]

/-- rows as the program has them, beside what has been read -/
structure Rel (rs : List Rw) (st : Sc) : Prop where
  rows : rs.map Rw.full = rowsM st.l
  ok : ∀ R ∈ rs, R.ok
  wd : ∀ p ∈ st.l, Wd p.inn
  runs : ∀ p ∈ st.l, ∀ r, p.run = some r → p.inn = none_ ∧ p.ch = (Em.get st.runs r).ch
  len : rs.length = st.runs.length + 1
theorem rel_start : Rel [Rw.nil] ⟨[], []⟩ := ⟨rfl, by intro R hR; obtain rfl := List.mem_singleton.1 hR; exact Rw.ok_nil, by simp, by simp, rfl⟩
theorem rel_say {rs : List Rw} {st : Sc} (h : Rel rs st) {s : List UInt8} (hs : V8 s) : Rel (lastI (fun R => R.say s) rs) ⟨pput st.l s, st.runs⟩ := by
  refine ⟨?_, lastI_mem h.ok fun R hR => Rw.ok_say hR hs, ?_, fun p hp r hr => h.runs p (pput_mem hp hr) r hr, by rw [lastI_len]; exact h.len⟩
  · rw [rowsM_pput h.wd, ← h.rows]
    exact lastI_map fun R hR => Rw.full_say (h.ok R hR) s
  · intro p hp
    rcases pput_cases st.l s with ⟨l', t, d, k, n, c, e, e2⟩ | e
    · simp only at hp
      rw [e2] at hp
      rcases List.mem_append.1 hp with hp | hp
      · exact h.wd p (by rw [e]; simp [hp])
      · obtain rfl := List.mem_singleton.1 hp
        obtain ⟨rfl, rfl⟩ := h.wd ⟨.mk 0 t d k, none, n, c⟩ (by rw [e]; simp) t d k rfl
        exact wd_word _
    · simp only at hp
      rw [e] at hp
      rcases List.mem_append.1 hp with hp | hp
      · exact h.wd p hp
      · obtain rfl := List.mem_singleton.1 hp; exact wd_word _
theorem rel_put {rs : List Rw} {st : Sc} (h : Rel rs st) {k : Nat} (hk : k ≠ 0) (t d : List UInt8) (ks : List In) : Rel (lastI (fun R => R.put (.mk k t d ks)) rs) ⟨st.l ++ [⟨.mk k t d ks, none, 0, 0⟩], st.runs⟩ := by
  refine ⟨?_, lastI_mem h.ok fun R hR => Rw.ok_put hR hk t d ks, ?_, fun p hp r hr => ?_, by rw [lastI_len]; exact h.len⟩
  · rw [rowsM_put, ← h.rows]
    exact lastI_map fun R _ => Rw.full_put R hk t d ks
  · intro p hp
    rcases List.mem_append.1 hp with hp | hp
    · exact h.wd p hp
    · obtain rfl := List.mem_singleton.1 hp; exact wd_kind hk _ _ _
  · rcases List.mem_append.1 hp with hp | hp
    · exact h.runs p hp r hr
    · obtain rfl := List.mem_singleton.1 hp; cases hr
theorem rel_run {rs : List Rw} {st : Sc} (h : Rel rs st) (hr : rns st.l = List.range st.runs.length) (x : Em.R) : Rel (rs ++ [Rw.nil]) ⟨st.l ++ [⟨none_, some st.runs.length, x.n.toNat, x.ch⟩], st.runs ++ [x]⟩ := by
  refine ⟨?_, ?_, ?_, ?_, by simp [h.len]⟩
  · rw [rowsM_run, ← h.rows, List.map_append]; rfl
  · intro R hR
    rcases List.mem_append.1 hR with hR | hR
    · exact h.ok R hR
    · obtain rfl := List.mem_singleton.1 hR; exact Rw.ok_nil
  · intro p hp
    rcases List.mem_append.1 hp with hp | hp
    · exact h.wd p hp
    · obtain rfl := List.mem_singleton.1 hp
      intro t d ks e; unfold none_ at e; injection e with _ _ e1 e2; exact ⟨e1.symm, e2.symm⟩
  · intro p hp r hpr
    rcases List.mem_append.1 hp with hp | hp
    · have h1 := h.runs p hp r hpr
      have hm : r < st.runs.length := by
        have : r ∈ rns st.l := mem_rns.2 ⟨p, hp, hpr⟩
        rw [hr] at this; exact List.mem_range.1 this
      refine ⟨h1.1, ?_⟩
      rw [h1.2, Em.get_at hm, Em.get_at (by simp; omega), List.getElem_append_left hm]
    · obtain rfl := List.mem_singleton.1 hp
      obtain rfl : st.runs.length = r := Option.some.inj hpr
      refine ⟨rfl, ?_⟩
      rw [Em.get_at (by simp)]
      simp

/-! ### rows laid into one another, run by run -/
def topPuts (st : List (List In)) (F : List In) : List (List In) :=
  match st with
  | [] => []
  | t :: r => puts t F :: r
def mrows (LF : Nat → Nat) (ch : Nat → UInt8) : Nat → List (List In) → Sk → Sk
  | _, [], S => S
  | i, F :: Fs, S => mrows LF ch (i + 1) Fs ((run1 LF i (ch i) S).1, topPuts (run1 LF i (ch i) S).2 F)
theorem mach_rows {LF : Nat → Nat} {ch : Nat → UInt8} : ∀ (l : List Pt) (i n : Nat) (S : Sk), rns l = List.range' i n → (∀ p ∈ l, ∀ r, p.run = some r → p.ch = ch r) →
    ∃ F Fs, rowsL l = F :: Fs ∧ mach LF S l = mrows LF ch i Fs (S.1, topPuts S.2 F)
  | [], i, n, S, _, _ => ⟨[], [], rfl, by
      have : topPuts S.2 [] = S.2 := by unfold topPuts; cases S.2 <;> rfl
      rw [this]; rfl⟩
  | p :: l, i, n, S, h, hc => by
    have hc' : ∀ q ∈ l, ∀ r, q.run = some r → q.ch = ch r := fun q hq => hc q (by simp [hq])
    rw [rns_cons] at h
    cases hp : p.run with
    | none =>
      rw [hp] at h
      obtain ⟨F, Fs, h1, h2⟩ := mach_rows l i n (S.1, topPut S.2 p.inn) h hc'
      refine ⟨p.inn :: F, Fs, by unfold rowsL; rw [hp, h1], ?_⟩
      rw [mach_cons]
      have e : mstep LF S p = (S.1, topPut S.2 p.inn) := by unfold mstep; rw [hp]
      rw [e, h2]
      congr 2
      unfold topPut topPuts
      cases S.2 <;> rfl
    | some r =>
      rw [hp] at h
      cases n with
      | zero => simp at h
      | succ n =>
        rw [List.range'_succ] at h
        injection h with hr h
        subst hr
        have e : mstep LF S p = run1 LF r (ch r) S := by unfold mstep; rw [hp, hc p (by simp) r hp]
        obtain ⟨F, Fs, h1, h2⟩ := mach_rows l (r + 1) n (run1 LF r (ch r) S) (by simpa using h) hc'
        refine ⟨[], F :: Fs, by unfold rowsL; rw [hp, h1], ?_⟩
        rw [mach_cons, e, h2]
        have : topPuts S.2 [] = S.2 := by unfold topPuts; cases S.2 <;> rfl
        rw [this]
        rfl
theorem rowsL_wd {l : List Pt} (hw : ∀ p ∈ l, Wd p.inn) : ∀ F ∈ rowsL l, ∀ y ∈ F, Wd y := by
  induction l with
  | nil => intro F hF; simp [rowsL] at hF; subst hF; simp
  | cons p l ih =>
    have ih' := ih fun q hq => hw q (by simp [hq])
    unfold rowsL
    cases p.run with
    | some r =>
      intro F hF
      rcases List.mem_cons.1 hF with rfl | hF
      · simp
      · exact ih' F hF
    | none =>
      simp only
      cases hl : rowsL l with
      | nil => exact absurd hl (rowsL_ne l)
      | cons G Gs =>
        rw [hl] at ih'
        intro F hF y hy
        rcases List.mem_cons.1 hF with rfl | hF
        · rcases List.mem_cons.1 hy with rfl | hy
          · exact hw p (by simp)
          · exact ih' G (by simp) y hy
        · exact ih' F (by simp [hF]) y hy
theorem mrows_self {LF : Nat → Nat} {ch : Nat → UInt8} : ∀ (Fs : List (List In)) (i : Nat) (S : Sk), (∀ F ∈ Fs, ∀ y ∈ F, Wd y) → mrows LF ch i (Fs.map (puts [])) S = mrows LF ch i Fs S
  | [], _, _, _ => rfl
  | F :: Fs, i, S, h => by
    rw [List.map_cons]
    unfold mrows
    rw [mrows_self Fs (i + 1) _ fun G hG => h G (by simp [hG])]
    congr 2
    unfold topPuts
    cases (run1 LF i (ch i) S).2 with
    | nil => rfl
    | cons t r => simp only; rw [puts_self t F (h F (by simp))]
/-- how many signs of a run are left in the end -/
def lfin (runs : List Em.R) (r : Nat) : Nat := cnt runs r - Em.used (Em.pairs runs) r
/-- what the program makes of its rows is what the document says -/
theorem fold_rows {rs : List Rw} {st : Sc} {i : Nat} (h : Rel rs st) (hs : ScOK st i) :
    ∃ R Rs, rs = R :: Rs ∧ mrows (lfin st.runs) (fun r => (Em.get st.runs r).ch) 0 (Rs.map Rw.full) (Em.pairs st.runs, [R.full]) = ([], [stress st.l st.runs]) := by
  have hinv := Em.inv_pairs st.runs
  have hrd := scok_ready hs
  have hM : MOK (lfin st.runs) st.l (Em.pairs st.runs) := by
    refine ⟨hrd.sorted, fun x hx => ?_, Em.outside_pairs _, later_pairs _, fun p hp r hr => ?_⟩
    · have := hinv.good x hx
      exact ⟨hrd.all _ (by omega), hrd.all _ this.2.2.1, this.1⟩
    · refine ⟨?_, (h.runs p hp r hr).1⟩
      rw [hrd.left p hp r hr]
      have hm : r < st.runs.length := by
        have : r ∈ rns st.l := mem_rns.2 ⟨p, hp, hr⟩
        rw [hs.rns] at this; exact List.mem_range.1 this
      have h1 := hinv.sum r hm
      have h2 := (cnt_held hrd.pos hm).1
      have h3 : Em.used (Em.pairs st.runs) r ≤ cnt st.runs r := by unfold Em.pairs at *; omega
      unfold lfin; omega
  have hm := mach_all hM
  obtain ⟨F, Fs, h1, h2⟩ := mach_rows (LF := lfin st.runs) (ch := fun r => (Em.get st.runs r).ch) st.l 0 st.runs.length (Em.pairs st.runs, [[]]) (by rw [hs.rns, List.range_eq_range']) (fun p hp r hr => (h.runs p hp r hr).2)
  have hw := rowsL_wd h.wd
  rw [h1] at hw
  have hr := h.rows
  unfold rowsM at hr
  rw [h1, List.map_cons] at hr
  cases rs with
  | nil => simp at hr
  | cons R Rs =>
    rw [List.map_cons] at hr
    injection hr with e1 e2
    refine ⟨R, Rs, rfl, ?_⟩
    rw [e2, mrows_self Fs 0 _ fun G hG => hw G (by simp [hG]), e1]
    rw [h2] at hm
    exact hm
end Go.Proofs.YtkfhkfagmokjpaaGreatDoor.Il

namespace Go.Proofs.YtkfhkfagmokjpaaGreatDoor
open Go.RowKit Go.Maps

inductive Pa
  | blk (g : Nat) (cs : Array Value) (t : TypeId)
  | row (e : TypeId) (size : Nat) (v : Value) (n : Nat) (xs : List Value)
  | map (g n : Nat) (D : DataW Unit)
def ilMapAt (w : World) (g n : Nat) (D : DataW Unit) : Prop := w.ownsMap Tryz.prog 3 (plainElem Tryz.prog 3) g n D
def Pa.holds (w : World) (B : Nat) : Pa → Prop
  | .blk g cs t => B ≤ g ∧ w.heap[g]? = some (.cells cs t (0, 0))
  | .row e size v n xs => w.ownsRow B e size v n xs
  | .map g n D => B ≤ g ∧ ilMapAt w g n D
def Pa.block : Pa → Option Nat
  | .blk g _ _ => some g
  | .row _ _ v _ _ => v.ownBlock
  | .map g _ _ => some g
structure Hq {K : Type} (w : World) (B : Nat) (m : K → Option Pa) : Prop where
  holds : ∀ k a, m k = some a → a.holds w B
  apart : ∀ k k' a a' g, m k = some a → m k' = some a' → a.block = some g → a'.block = some g → k = k'
theorem Pa.lt {w : World} {B : Nat} {a : Pa} (h : a.holds w B) {g : Nat} (hg : a.block = some g) : B ≤ g ∧ g < w.heap.size := by
  cases a with
  | blk g' cs t =>
    simp only [Pa.block, Option.some.injEq] at hg
    subst hg
    exact ⟨h.1, (Array.getElem?_eq_some_iff.1 h.2).1⟩
  | row e size v n xs => exact World.ownsRow.lt (show w.ownsRow B e size v n xs from h) g hg
  | map g' n D =>
    simp only [Pa.block, Option.some.injEq] at hg
    subst hg
    exact ⟨h.1, World.ownsMap.lt h.2⟩
theorem Pa.kept {w w' : World} {B : Nat} {a : Pa} (h : a.holds w B) {row : Option Nat} (hg : w.grownBy w' row) (hne : a.block = none ∨ a.block ≠ row) : a.holds w' B := by
  cases a with
  | blk g cs t =>
    refine ⟨h.1, ?_⟩
    rw [hg.block g (Array.getElem?_eq_some_iff.1 h.2).1 (by rcases hne with h | h; · cases h
                                                            · exact h)]
    exact h.2
  | row e size v n xs => exact World.ownsRow.kept (show w.ownsRow B e size v n xs from h) hg hne
  | map g n D => exact ⟨h.1, World.ownsMap.kept h.2 hg (by rcases hne with h | h; · cases h
                                                           · exact h)⟩
/-- blocks of the call's own that are no part -/
def Fr {K : Type} (w : World) (B : Nat) (m : K → Option Pa) : Nat → Prop := fun b => B ≤ b ∧ b < w.heap.size ∧ ∀ k a, m k = some a → a.block ≠ some b
/-- parts turn into parts; what is none is let alone -/
structure Turn {K K' : Type} (B : Nat) (m : K → Option Pa) (w : World) (m' : K' → Option Pa) (w' : World) : Prop where
  hp : Hq w' B m'
  bel : Below B w w'
  fre : ∀ b, Fr w B m b → w'.heap[b]? = w.heap[b]? ∧ Fr w' B m' b
section
variable {K K' K'' : Type} {w w' w'' : World} {B : Nat} {m : K → Option Pa} {m' : K' → Option Pa} {m'' : K'' → Option Pa}
theorem Turn.trans (h : Turn B m w m' w') (k : Turn B m' w' m'' w'') : Turn B m w m'' w'' :=
  ⟨k.hp, h.bel.trans k.bel, fun b hb => by
    obtain ⟨h1, h2⟩ := h.fre b hb
    obtain ⟨h3, h4⟩ := k.fre b h2
    exact ⟨h3.trans h1, h4⟩⟩
theorem Hq.refl (h : Hq w B m) : Turn B m w m w := ⟨h, Below.refl _ _, fun _ hb => ⟨rfl, hb⟩⟩
theorem Turn.kids (h : Turn B m w m' w') {ts : List Il.In} {css : List (List Value)} (k : ICs w (Fr w B m) ts css) : ICs w' (Fr w' B m') ts css :=
  ICs_frame (fun b hb => (h.fre b hb).1) (fun b hb => (h.fre b hb).2) k
theorem Turn.kid (h : Turn B m w m' w') {t : Il.In} {cs : List Value} (k : IC w (Fr w B m) t cs) : IC w' (Fr w' B m') t cs :=
  IC_frame (fun b hb => (h.fre b hb).1) (fun b hb => (h.fre b hb).2) k
theorem Turn.rowI (h : Turn B m w m' w') {size n : Nat} {A : Option Addr} {xs : List Value} (k : RowI w (Fr w B m) size A n xs) : RowI w' (Fr w' B m') size A n xs :=
  k.frame (fun b hb => (h.fre b hb).1) (fun b hb => (h.fre b hb).2)
/-- a call that makes memory of its own -/
theorem Hq.call (h : Hq w B m) (hB : B ≤ w.heap.size) (hb : Below w.heap.size w w') : Turn B m w m w' :=
  ⟨⟨fun k a ha => Pa.kept (h.holds k a ha) (grown_ext hb (some w.heap.size)) (by
      cases hbo : a.block with
      | none => exact .inl rfl
      | some g => exact .inr fun e => by have := (Pa.lt (h.holds k a ha) hbo).2; injection e with e; omega), h.apart⟩,
    hb.mono hB, fun b hb' => ⟨hb.block b hb'.2.1, hb'.1, Nat.lt_of_lt_of_le hb'.2.1 hb.size, hb'.2.2⟩⟩
theorem Hq.new (h : Hq w B m) (hB : B ≤ w.heap.size) {b : Nat} (hb : w.heap.size ≤ b) (hb2 : b < w'.heap.size) : Fr w' B m b :=
  ⟨by omega, hb2, fun k a ha e => by have := (Pa.lt (h.holds k a ha) e).2; omega⟩
/-- parts under other keys, fewer of them, and some that have no block -/
theorem Hq.tsub (h : Hq w B m) (f : K' → K) (h1 : ∀ k a, m' k = some a → m (f k) = some a ∨ (a.block = none ∧ a.holds w B)) (h2 : ∀ k k' a a', m' k = some a → m' k' = some a' → a.block ≠ none → f k = f k' → k = k') : Turn B m w m' w := by
  refine ⟨⟨fun k a ha => ?_, fun k k' a a' g hk hk' hg hg' => ?_⟩, Below.refl _ _, fun b hb => ⟨rfl, hb.1, hb.2.1, fun k a ha => ?_⟩⟩
  · rcases h1 k a ha with e | e
    · exact h.holds _ _ e
    · exact e.2
  · rcases h1 k a hk with e | e
    · rcases h1 k' a' hk' with e' | e'
      · exact h2 k k' a a' hk hk' (by rw [hg]; simp) (h.apart _ _ _ _ g e e' hg hg')
      · rw [e'.1] at hg'; cases hg'
    · rw [e.1] at hg; cases hg
  · rcases h1 k a ha with e | e
    · exact hb.2.2 _ _ e
    · rw [e.1]; simp
end
section
variable {K : Type} [DecidableEq K] {w w' : World} {B : Nat} {m : K → Option Pa}
def uq (m : K → Option Pa) (k : K) (a : Pa) : K → Option Pa := fun j => if j = k then some a else m j
theorem uq_same (m : K → Option Pa) (k : K) (a : Pa) : uq m k a k = some a := if_pos rfl
theorem uq_other (m : K → Option Pa) {k j : K} (a : Pa) (h : j ≠ k) : uq m k a j = m j := if_neg h
theorem uq_uq (m : K → Option Pa) (k : K) (a b : Pa) : uq (uq m k a) k b = uq m k b := by
  funext j; unfold uq; split <;> rfl
theorem uq_self {m : K → Option Pa} {k : K} {a : Pa} (h : m k = some a) : uq m k a = m := by
  funext j; unfold uq; split
  · rename_i e; rw [e, h]
  · rfl
theorem uq_comm (m : K → Option Pa) {k l : K} (h : k ≠ l) (a b : Pa) : uq (uq m k a) l b = uq (uq m l b) k a := by
  funext j; unfold uq
  by_cases h1 : j = l
  · subst h1; rw [if_pos rfl, if_neg (Ne.symm h), if_pos rfl]
  · rw [if_neg h1, if_neg h1]
/-- one part is another one: it lies where it lay, or in a new block -/
theorem Hq.tput (h : Hq w B m) {k : K} {a : Pa} (a' : Pa) (hk : m k = some a) (hg : w.grownBy w' a.block) (ha : a'.holds w' B)
    (hat : ∀ g, a'.block = some g → a.block = some g ∨ w.heap.size ≤ g) (hB : B ≤ w.heap.size) : Turn B m w (uq m k a') w' := by
  have hblk : ∀ b, b < B → w'.heap[b]? = w.heap[b]? := fun b hb => hg.block b (by omega) (fun e => by
    have := (Pa.lt (h.holds k a hk) e.symm).1; omega)
  refine ⟨⟨fun j b hb => ?_, fun i j b c g hi hj hbi hbj => ?_⟩, ⟨hg.os, hg.tape, hg.output, hg.size, hblk⟩, fun b hb => ⟨hg.block b hb.2.1 (fun e => hb.2.2 k a hk e.symm), hb.1, Nat.lt_of_lt_of_le hb.2.1 hg.size, fun j c hc => ?_⟩⟩
  · by_cases hjk : j = k
    · subst hjk; rw [uq_same] at hb; cases hb; exact ha
    · rw [uq_other _ _ hjk] at hb
      refine Pa.kept (h.holds j b hb) hg ?_
      cases hbo : b.block with
      | none => exact .inl rfl
      | some g => exact .inr fun he => hjk (h.apart j k b a g hb hk hbo he.symm)
  · by_cases hik : i = k
    · by_cases hjk : j = k
      · rw [hik, hjk]
      · subst hik
        rw [uq_same] at hi; cases hi
        rw [uq_other _ _ hjk] at hj
        rcases hat g hbi with h1 | h1
        · exact h.apart i j a c g hk hj h1 hbj
        · exact absurd (Pa.lt (h.holds j c hj) hbj).2 (by omega)
    · by_cases hjk : j = k
      · subst hjk
        rw [uq_same] at hj; cases hj
        rw [uq_other _ _ hik] at hi
        rcases hat g hbj with h1 | h1
        · exact h.apart i j b a g hi hk hbi h1
        · exact absurd (Pa.lt (h.holds i b hi) hbi).2 (by omega)
      · rw [uq_other _ _ hik] at hi; rw [uq_other _ _ hjk] at hj
        exact h.apart i j b c g hi hj hbi hbj
  · by_cases hjk : j = k
    · subst hjk; rw [uq_same] at hc; cases hc
      intro e
      rcases hat b e with h1 | h1
      · exact hb.2.2 _ a hk h1
      · have := hb.2.1; omega
    · rw [uq_other _ _ hjk] at hc; exact hb.2.2 j c hc
/-- one part more, in a new block -/
theorem Hq.tmore (h : Hq w B m) {k : K} (a' : Pa) (hk : m k = none) (hb : Below w.heap.size w w') (ha : a'.holds w' B)
    (hat : ∀ g, a'.block = some g → w.heap.size ≤ g) (hB : B ≤ w.heap.size) : Turn B m w (uq m k a') w' := by
  have h' := (h.call hB hb).hp
  refine ⟨⟨fun j b hb => ?_, fun i j b c g hi hj hbi hbj => ?_⟩, hb.mono hB, fun b hb' => ⟨hb.block b hb'.2.1, hb'.1, Nat.lt_of_lt_of_le hb'.2.1 hb.size, fun j c hc => ?_⟩⟩
  · by_cases hjk : j = k
    · subst hjk; rw [uq_same] at hb; cases hb; exact ha
    · rw [uq_other _ _ hjk] at hb; exact h'.holds j b hb
  · by_cases hik : i = k
    · by_cases hjk : j = k
      · rw [hik, hjk]
      · subst hik
        rw [uq_same] at hi; cases hi
        rw [uq_other _ _ hjk] at hj
        exact absurd (Pa.lt (h.holds j c hj) hbj).2 (by have := hat g hbi; omega)
    · by_cases hjk : j = k
      · subst hjk
        rw [uq_same] at hj; cases hj
        rw [uq_other _ _ hik] at hi
        exact absurd (Pa.lt (h.holds i b hi) hbi).2 (by have := hat g hbj; omega)
      · rw [uq_other _ _ hik] at hi; rw [uq_other _ _ hjk] at hj
        exact h.apart i j b c g hi hj hbi hbj
  · by_cases hjk : j = k
    · subst hjk; rw [uq_same] at hc; cases hc
      intro e
      have := hat b e
      have := hb'.2.1
      omega
    · rw [uq_other _ _ hjk] at hc; exact hb'.2.2 j c hc
end

/-- two cells of a block: a part that is told by them -/
structure Cn (g o : Nat) (C : Value → Value → Pa) : Prop where
  block : ∀ a b, (C a b).block = some g
  read : ∀ {w B a b}, (C a b).holds w B → w.cell? ⟨g, o, none⟩ = some a ∧ w.cell? ⟨g, o + 1, none⟩ = some b ∧ ∀ j, w.frozen? ⟨g, j, none⟩ = false
  set0 : ∀ {w B a b} u, (C a b).holds w B → (C u b).holds (w.setCell ⟨g, o, none⟩ u) B
  set1 : ∀ {w B a b} u, (C a b).holds w B → (C a u).holds (w.setCell ⟨g, o + 1, none⟩ u) B
theorem cn_blk (g : Nat) (t : TypeId) : Cn g 0 (fun a b => .blk g #[a, b] t) :=
  ⟨fun _ _ => rfl, fun h => ⟨blk_cell h.2 0, blk_cell h.2 1, blk_free h.2⟩,
   fun {w _ a b} u h => ⟨h.1, heap_setCell_same w g 0 #[a, b] t u h.2⟩, fun {w _ a b} u h => ⟨h.1, heap_setCell_same w g 1 #[a, b] t u h.2⟩⟩
theorem cn_row (e : TypeId) (g n c : Nat) (pre suf : List Value) {o : Nat} (ho : pre.length = o) : Cn g o (fun a b => .row e 2 (.slice (some ⟨g, 0, none⟩) n c) n (pre ++ a :: b :: suf)) := by
  subst ho
  refine ⟨fun _ _ => rfl, fun {w B a b} h => ?_, fun {w B a b} u h => ?_, fun {w B a b} u h => ?_⟩
  · have h : w.ownsRow B e 2 (.slice (some ⟨g, 0, none⟩) n c) n (pre ++ a :: b :: suf) := h
    exact ⟨il_own_cell h (by simp), il_own_cell h (by simp), fun j => World.ownsRow.frozenAt h j⟩
  · have h : w.ownsRow B e 2 (.slice (some ⟨g, 0, none⟩) n c) n (pre ++ a :: b :: suf) := h
    have := (World.ownsRow.stored h pre.length u).1
    show World.ownsRow _ _ _ _ _ _ _
    simpa using this
  · have h : w.ownsRow B e 2 (.slice (some ⟨g, 0, none⟩) n c) n (pre ++ a :: b :: suf) := h
    have := (World.ownsRow.stored h (pre.length + 1) u).1
    rw [List.set_append_right _ _ (by omega), show pre.length + 1 - pre.length = 1 by omega] at this
    exact this

/-! ### a row that grows, in memory -/
abbrev Ky := Nat × Nat
structure Ks where
  g : Ky
  i : Ky
  p : Ky
structure Ks.ok (k : Ks) : Prop where
  gi : k.i ≠ k.g
  gp : k.p ≠ k.g
  ip : k.p ≠ k.i
def rinl (R : Il.Rw) (v : Value) (css : List (List Value)) : Pa := .row 41 4 v R.l.length css.flatten
def rpln (R : Il.Rw) (v : Value) : Pa := .row 5 1 v R.p.length (bcells R.p)
def rowm (m : Ky → Option Pa) (k : Ks) (C : Value → Value → Pa) (R : Il.Rw) (vi vp : Value) (css : List (List Value)) : Ky → Option Pa := uq (uq (uq m k.g (C vi vp)) k.i (rinl R vi css)) k.p (rpln R vp)
section
variable {m : Ky → Option Pa} {k : Ks} {C : Value → Value → Pa} {R : Il.Rw} {vi vp : Value} {css : List (List Value)} {w w' : World} {B g o : Nat}
theorem rowm_g (hk : k.ok) : rowm m k C R vi vp css k.g = some (C vi vp) := by
  unfold rowm; rw [uq_other _ _ (Ne.symm hk.gp), uq_other _ _ (Ne.symm hk.gi), uq_same]
theorem rowm_i (hk : k.ok) : rowm m k C R vi vp css k.i = some (rinl R vi css) := by
  unfold rowm; rw [uq_other _ _ (Ne.symm hk.ip), uq_same]
theorem rowm_p : rowm m k C R vi vp css k.p = some (rpln R vp) := by unfold rowm; rw [uq_same]
theorem rowm_other {j : Ky} (h1 : j ≠ k.g) (h2 : j ≠ k.i) (h3 : j ≠ k.p) : rowm m k C R vi vp css j = m j := by
  unfold rowm; rw [uq_other _ _ h3, uq_other _ _ h2, uq_other _ _ h1]
/-- what is known of such a row -/
theorem rowm_all (hk : k.ok) (hC : Cn g o C) (h : Hq w B (rowm m k C R vi vp css)) :
    w.cell? ⟨g, o, none⟩ = some vi ∧ w.cell? ⟨g, o + 1, none⟩ = some vp ∧ (∀ j, w.frozen? ⟨g, j, none⟩ = false) ∧ B ≤ g ∧ g < w.heap.size ∧ w.ownsRow B 41 4 vi R.l.length css.flatten ∧ w.ownsRow B 5 1 vp R.p.length (bcells R.p) ∧ vi.ownBlock ≠ some g ∧ vp.ownBlock ≠ some g := by
  have hg := h.holds _ _ (rowm_g hk)
  obtain ⟨h1, h2, h3⟩ := hC.read hg
  have h4 := Pa.lt hg (hC.block _ _)
  refine ⟨h1, h2, h3, h4.1, h4.2, h.holds _ _ (rowm_i hk), h.holds _ _ rowm_p, fun e => ?_, fun e => ?_⟩
  · exact hk.gi (h.apart _ _ _ _ g (rowm_i hk) (rowm_g hk) e (hC.block _ _))
  · exact hk.gp (h.apart _ _ _ _ g rowm_p (rowm_g hk) e (hC.block _ _))
/-- where another row grows, the two cells stay -/
theorem rowm_stay (hk : k.ok) (hC : Cn g o C) (h : Hq w B (rowm m k C R vi vp css)) {row : Option Nat} (hg : w.grownBy w' row) (hne : row ≠ some g) :
    w'.cell? ⟨g, o, none⟩ = some vi ∧ w'.cell? ⟨g, o + 1, none⟩ = some vp ∧ (∀ j, w'.frozen? ⟨g, j, none⟩ = false) ∧ g < w'.heap.size := by
  have hh := Pa.kept (h.holds _ _ (rowm_g hk)) hg (.inr (by rw [hC.block]; exact fun e => hne e.symm))
  obtain ⟨h1, h2, h3⟩ := hC.read hh
  exact ⟨h1, h2, h3, (Pa.lt hh (hC.block _ _)).2⟩
/-- the plain text is another one -/
theorem rowm_pln (hk : k.ok) (hC : Cn g o C) (h : Hq w B (rowm m k C R vi vp css)) (hB : B ≤ w.heap.size) {R' : Il.Rw} {vp' : Value} (hl : R'.l = R.l) (hg : w.grownBy w' vp.ownBlock) (ho : w'.ownsRow B 5 1 vp' R'.p.length (bcells R'.p)) (hat : At w.heap.size vp vp') :
    Turn B (rowm m k C R vi vp css) w (rowm m k C R' vi vp' css) (w'.setCell ⟨g, o + 1, none⟩ vp') := by
  have t1 := h.tput (k := k.p) (rpln R' vp') rowm_p hg ho hat hB
  have e0 : uq (rowm m k C R vi vp css) k.p (rpln R' vp') k.g = some (C vi vp) := by rw [uq_other _ _ (Ne.symm hk.gp), rowm_g hk]
  have t2 := t1.hp.tput (k := k.g) (w' := w'.setCell ⟨g, o + 1, none⟩ vp') (C vi vp') e0 (by rw [hC.block]; exact grown_set w' ⟨g, o + 1, none⟩ vp') (hC.set1 vp' (t1.hp.holds _ _ e0)) (fun g' hg' => .inl (by rw [hC.block] at hg' ⊢; exact hg')) (Nat.le_trans hB t1.bel.size)
  have t := t1.trans t2
  have e : uq (uq (rowm m k C R vi vp css) k.p (rpln R' vp')) k.g (C vi vp') = rowm m k C R' vi vp' css := by
    have : rinl R' vi css = rinl R vi css := by unfold rinl; rw [hl]
    unfold rowm
    rw [this, uq_uq, uq_comm _ hk.gp, uq_comm (uq m k.g (C vi vp)) hk.gi, uq_uq]
  rwa [e] at t
/-- the inlines are others -/
theorem rowm_inl (hk : k.ok) (hC : Cn g o C) (h : Hq w B (rowm m k C R vi vp css)) (hB : B ≤ w.heap.size) {R' : Il.Rw} {vi' : Value} {css' : List (List Value)} (hp : R'.p = R.p) (hg : w.grownBy w' vi.ownBlock) (ho : w'.ownsRow B 41 4 vi' R'.l.length css'.flatten) (hat : At w.heap.size vi vi') :
    Turn B (rowm m k C R vi vp css) w (rowm m k C R' vi' vp css') (w'.setCell ⟨g, o, none⟩ vi') := by
  have t1 := h.tput (k := k.i) (rinl R' vi' css') (rowm_i hk) hg ho hat hB
  have e0 : uq (rowm m k C R vi vp css) k.i (rinl R' vi' css') k.g = some (C vi vp) := by rw [uq_other _ _ (Ne.symm hk.gi), rowm_g hk]
  have t2 := t1.hp.tput (k := k.g) (w' := w'.setCell ⟨g, o, none⟩ vi') (C vi' vp) e0 (by rw [hC.block]; exact grown_set w' ⟨g, o, none⟩ vi') (hC.set0 vi' (t1.hp.holds _ _ e0)) (fun g' hg' => .inl (by rw [hC.block] at hg' ⊢; exact hg')) (Nat.le_trans hB t1.bel.size)
  have t := t1.trans t2
  have e : uq (uq (rowm m k C R vi vp css) k.i (rinl R' vi' css')) k.g (C vi' vp) = rowm m k C R' vi' vp css' := by
    have : rpln R' vp = rpln R vp := by unfold rpln; rw [hp]
    unfold rowm
    rw [this, uq_comm _ hk.ip, uq_uq, uq_comm _ hk.gp, uq_comm (uq m k.g (C vi vp)) hk.gi, uq_uq]
  rwa [e] at t
end
end Go.Proofs.YtkfhkfagmokjpaaGreatDoor

namespace Go.Proofs.YtkfhkfagmokjpaaGreatDoor
open Go.RowKit

theorem ilBytEI : EI Tryz.prog 22 5 1 1 := EI.mk' (z := .int .u8 0) Tryz.underlying22 (by kernel_rfl) rfl (by omega)
/-- what behind a rune's bytes is known -/
def RunePut (B : Nat) (v : Value) (n : Nat) (xs : List Value) (cs : List Value) (w : World) (e : Ending) (w' : World) : Prop :=
  ∃ v', e = .returned v' ∧ w'.ownsRow B 5 1 v' (n + cs.length) (xs ++ cs) ∧ w.grownBy w' v.ownBlock ∧ At w.heap.size v v' ∧ Below B w w'
section
variable (B : Nat) (v : Value) (n : Nat) (xs : List Value) (r : Int) (w : World) (hown : w.ownsRow B 5 1 v n xs) (hlen : n ≤ 100000000000) (hBw : B ≤ w.heap.size)
set_option maxHeartbeats 4000000 in
set_option maxRecDepth 100000 in
include hown hlen hBw in
theorem arn_two (h0 : 128 ≤ r) (h1 : r ≤ 2047) : Calls Tryz.prog 90 #[v, .int .i32 r] w fun e w' => RunePut B v n xs [.int .u8 (192 + r / 64), .int .u8 (128 + r % 64)] w e w' := by
  go_enter Tryz.func90, Tryz.ntmps90
  go_wp2_with (at_builtin; refine wpList_app_two rfl (.tmp 14) (.tmp 23) rfl ilBytEI rfl hown rfl rfl rfl (by intro u hu; simp at hu; rcases hu with rfl | rfl <;> rfl) (by omega) (by omega) hBw ?_; intro v' w2 ho hg hb hat)
  go_ret
  exact ⟨_, rfl, ho, hg.out, hat.out, hb⟩
set_option maxHeartbeats 4000000 in
set_option maxRecDepth 100000 in
include hown hlen hBw in
theorem arn_lo (h0 : 2048 ≤ r) (h1 : r < 55296) : Calls Tryz.prog 90 #[v, .int .i32 r] w fun e w' => RunePut B v n xs [.int .u8 (224 + r / 4096), .int .u8 (128 + r / 64 % 64), .int .u8 (128 + r % 64)] w e w' := by
  go_enter Tryz.func90, Tryz.ntmps90
  go_wp2_with (at_builtin; refine wpList_app_two rfl (.tmp 34) (.tmp 48) rfl ilBytEI rfl hown rfl rfl rfl (by intro u hu; simp at hu; rcases hu with rfl | rfl | rfl <;> rfl) (by omega) (by omega) hBw ?_; intro v' w2 ho hg hb hat)
  go_ret
  exact ⟨_, rfl, ho, hg.out, hat.out, hb⟩
set_option maxHeartbeats 4000000 in
set_option maxRecDepth 100000 in
include hown hlen hBw in
theorem arn_hi (h0 : 57343 < r) (h1 : r ≤ 65535) : Calls Tryz.prog 90 #[v, .int .i32 r] w fun e w' => RunePut B v n xs [.int .u8 (224 + r / 4096), .int .u8 (128 + r / 64 % 64), .int .u8 (128 + r % 64)] w e w' := by
  go_enter Tryz.func90, Tryz.ntmps90
  go_wp2_with (at_builtin; refine wpList_app_two rfl (.tmp 34) (.tmp 48) rfl ilBytEI rfl hown rfl rfl rfl (by intro u hu; simp at hu; rcases hu with rfl | rfl | rfl <;> rfl) (by omega) (by omega) hBw ?_; intro v' w2 ho hg hb hat)
  go_ret
  exact ⟨_, rfl, ho, hg.out, hat.out, hb⟩
set_option maxHeartbeats 4000000 in
set_option maxRecDepth 100000 in
include hown hlen hBw in
theorem arn_four (h0 : 65536 ≤ r) (h1 : r ≤ 1114111) : Calls Tryz.prog 90 #[v, .int .i32 r] w fun e w' => RunePut B v n xs [.int .u8 (240 + r / 262144), .int .u8 (128 + r / 4096 % 64), .int .u8 (128 + r / 64 % 64), .int .u8 (128 + r % 64)] w e w' := by
  go_enter Tryz.func90, Tryz.ntmps90
  go_wp2_with (at_builtin; refine wpList_app_two rfl (.tmp 57) (.tmp 76) rfl ilBytEI rfl hown rfl rfl rfl (by intro u hu; simp at hu; rcases hu with rfl | rfl | rfl | rfl <;> rfl) (by omega) (by omega) hBw ?_; intro v' w2 ho hg hb hat)
  go_ret
  exact ⟨_, rfl, ho, hg.out, hat.out, hb⟩
set_option maxHeartbeats 4000000 in
set_option maxRecDepth 100000 in
include hown hlen hBw in
theorem arn_one (h0 : 0 ≤ r) (h1 : r ≤ 127) : Calls Tryz.prog 70 #[v, .int .i32 r] w fun e w' => RunePut B v n xs [.int .u8 r] w e w' := by
  go_enter Tryz.func70, Tryz.ntmps70
  go_wp2_with (at_builtin; refine wpList_app_two rfl (.tmp 8) (.tmp 11) rfl ilBytEI rfl hown rfl rfl rfl (by intro u hu; simp at hu; rcases hu with rfl; rfl) (by omega) (by omega) hBw ?_; intro v' w2 ho hg hb hat)
  go_ret
  exact ⟨_, rfl, ho, hg.out, hat.out, hb⟩
set_option maxHeartbeats 4000000 in
set_option maxRecDepth 100000 in
theorem arn_other (cs : List Value) (h0 : 128 ≤ r) (h1 : r ≤ 1114111) (hc : ∀ w1, w1.ownsRow B 5 1 v n xs → B ≤ w1.heap.size → Calls Tryz.prog 90 #[v, .int .i32 r] w1 fun e w' => RunePut B v n xs cs w1 e w') (hown : w.ownsRow B 5 1 v n xs) (hBw : B ≤ w.heap.size) : Calls Tryz.prog 70 #[v, .int .i32 r] w fun e w' => RunePut B v n xs cs w e w' := by
  go_enter Tryz.func70, Tryz.ntmps70
  go_wp2_with fail
  refine (hc _ hown hBw).mono ?_
  rintro e w1 ⟨v', rfl, h1, h2, h3, h4⟩
  replace h1 := Lib.hid h1
  replace h2 := Lib.hid h2
  replace h3 := Lib.hid h3
  replace h4 := Lib.hid h4
  go_wp2_with fail
  go_ret
  exact ⟨_, rfl, h1.out, h2.out, h3.out, h4.out⟩
end
/-- a rune's bytes, behind what there is -/
theorem par_any (B : Nat) (v : Value) (l : List UInt8) (r : Nat) (hr : Ru.vr r) (w : World) (hown : w.ownsRow B 5 1 v l.length (bcells l)) (hlen : l.length ≤ 100000000000) (hBw : B ≤ w.heap.size) :
    Calls Tryz.prog 70 #[v, .int .i32 (r : Int)] w fun e w' => ∃ v', e = .returned v' ∧ w'.ownsRow B 5 1 v' (l ++ Lib.encodeRune (r : Int)).length (bcells (l ++ Lib.encodeRune (r : Int))) ∧ w.grownBy w' v.ownBlock ∧ At w.heap.size v v' ∧ Below B w w' := by
  have key : Calls Tryz.prog 70 #[v, .int .i32 (r : Int)] w fun e w' => RunePut B v l.length (bcells l) (Lib.runeCells (r : Int)) w e w' := by
    unfold Ru.vr at hr
    by_cases c0 : r ≤ 127
    · rw [show Lib.runeCells (r : Int) = [.int .u8 (r : Int)] by simp [Lib.runeCells, Lib.encodeRuneZ_one (r := (r : Int)) (by omega) (by omega)]]
      exact arn_one B v _ _ r w hown hlen hBw (by omega) (by omega)
    by_cases c1 : r ≤ 2047
    · rw [show Lib.runeCells (r : Int) = [.int .u8 (192 + (r : Int) / 64), .int .u8 (128 + (r : Int) % 64)] by simp [Lib.runeCells, Lib.encodeRuneZ_two (r := (r : Int)) (by omega) (by omega)]]
      exact arn_other B v _ _ r w _ (by omega) (by omega) (fun w1 h1 h2 => arn_two B v _ _ r w1 h1 hlen h2 (by omega) (by omega)) hown hBw
    by_cases c2 : r < 55296
    · rw [show Lib.runeCells (r : Int) = [.int .u8 (224 + (r : Int) / 4096), .int .u8 (128 + (r : Int) / 64 % 64), .int .u8 (128 + (r : Int) % 64)] by simp [Lib.runeCells, Lib.encodeRuneZ_three (r := (r : Int)) (Or.inl ⟨by omega, by omega⟩)]]
      exact arn_other B v _ _ r w _ (by omega) (by omega) (fun w1 h1 h2 => arn_lo B v _ _ r w1 h1 hlen h2 (by omega) (by omega)) hown hBw
    by_cases c4 : r ≤ 65535
    · rw [show Lib.runeCells (r : Int) = [.int .u8 (224 + (r : Int) / 4096), .int .u8 (128 + (r : Int) / 64 % 64), .int .u8 (128 + (r : Int) % 64)] by simp [Lib.runeCells, Lib.encodeRuneZ_three (r := (r : Int)) (Or.inr ⟨by omega, by omega⟩)]]
      exact arn_other B v _ _ r w _ (by omega) (by omega) (fun w1 h1 h2 => arn_hi B v _ _ r w1 h1 hlen h2 (by omega) (by omega)) hown hBw
    · rw [show Lib.runeCells (r : Int) = [.int .u8 (240 + (r : Int) / 262144), .int .u8 (128 + (r : Int) / 4096 % 64), .int .u8 (128 + (r : Int) / 64 % 64), .int .u8 (128 + (r : Int) % 64)] by simp [Lib.runeCells, Lib.encodeRuneZ_four (r := (r : Int)) (by omega) (by omega)]]
      exact arn_other B v _ _ r w _ (by omega) (by omega) (fun w1 h1 h2 => arn_four B v _ _ r w1 h1 hlen h2 (by omega) (by omega)) hown hBw
  refine key.mono ?_
  rintro e w' ⟨v', he, h1, h2, h3, h4⟩
  refine ⟨v', he, ?_, h2, h3, h4⟩
  have e1 : bcells (l ++ Lib.encodeRune (r : Int)) = bcells l ++ Lib.runeCells (r : Int) := by
    rw [show Lib.runeCells (r : Int) = bcells (Lib.encodeRune (r : Int)) from (Lib.byteCells_encodeRune _).symm]
    simp [bcells]
  rw [e1, List.length_append, ← Lib.runeCells_length]
  exact h1
end Go.Proofs.YtkfhkfagmokjpaaGreatDoor

namespace Go.Proofs.YtkfhkfagmokjpaaGreatDoor
open Go.RowKit

set_option maxHeartbeats 4000000 in
set_option maxRecDepth 100000 in
/-- the last row's place -/
theorem plast_any (g n c : Nat) (hn : 0 < n) (hn2 : n ≤ 1000000000000) (w : World) : Calls Tryz.prog 40 #[.slice (some ⟨g, 0, none⟩) n c] w fun e w' => e = .returned (.pointer (some ⟨g, (n - 1) * 2, none⟩)) ∧ w' = w := by
  obtain ⟨k, rfl⟩ : ∃ k, n = k + 1 := ⟨n - 1, by omega⟩
  have h1 : ((k + 1 : Nat) : Int) - 1 = (k : Int) := by omega
  go_enter Tryz.func40, Tryz.ntmps40
  go_wp2_with fail
  go_ret
  exact ⟨by simp, rfl⟩

section
variable {m : Ky → Option Pa} {k : Ks} {C : Value → Value → Pa} {R : Il.Rw} {vi vp : Value} {css : List (List Value)} {w : World} {B g o : Nat}
set_option maxHeartbeats 4000000 in
set_option maxRecDepth 100000 in
theorem psayRune_any (hk : k.ok) (hC : Cn g o C) (h : Hq w B (rowm m k C R vi vp css)) (hB : B ≤ w.heap.size) (r : Nat) (hr : Ru.vr r) (hl : R.p.length ≤ 100000000000) :
    Calls Tryz.prog 48 #[.pointer (some ⟨g, o, none⟩), .int .i32 (r : Int)] w fun e w' => e = .returned (.tuple #[]) ∧ ∃ vp', Turn B (rowm m k C R vi vp css) w (rowm m k C (R.say (Lib.encodeRune (r : Int))) vi vp' css) w' := by
  obtain ⟨c0, c1, cf, hBg, hgz, oi, op, nei, nep⟩ := rowm_all hk hC h
  have hst := Lib.hid (fun (w' : World) (hg : w.grownBy w' vp.ownBlock) => rowm_stay hk hC h hg nep)
  have hfin := Lib.hid (fun (w' : World) (vp' : Value) ho hg hat => rowm_pln (w' := w') (R' := R.say (Lib.encodeRune (r : Int))) (vp' := vp') hk hC h hB rfl hg ho hat)
  have hc := Lib.hid (par_any B vp R.p r hr w op hl hB)
  obtain ⟨A, c, rfl, hc3⟩ := own_shape op
  clear h oi op nei nep c0
  go_enter Tryz.func48, Tryz.ntmps48
  go_wp2_with fail
  refine hc.out.mono ?_
  rintro e w1 ⟨v', rfl, h1, h2, h3, h4⟩
  obtain ⟨d0, d1, df, hgz1⟩ := hst.out _ h2
  have hfin1 := Lib.hid (hfin.out _ v' h1 h2 h3)
  obtain ⟨A1, c1', rfl, _⟩ := own_shape h1
  clear h1 h2 h3 h4 d0 hst hfin hc
  generalize (R.p ++ Lib.encodeRune (r : Int)).length = n1 at *
  go_wp2_with fail
  go_returns
  exact ⟨rfl, _, hfin1.out⟩
end
end Go.Proofs.YtkfhkfagmokjpaaGreatDoor

namespace Go.Proofs.YtkfhkfagmokjpaaGreatDoor
open Go.RowKit

/-- a store, as a maker of a tree -/
theorem wpT_store {P : Program} {ops : Array Oper} {Q : Exit → Act → World → Prop} {S : World → Prop} {i : Nat} {r : OT} {a : Act} {w w' : World} {o : Oper} (ho : ops[i]? = some o) (hw : Region.wanted o (yielded ops a.tmps) = true)
    (hrun : (execOp a.eval o).run P w = .ok .skip w') (hS : S w') (h : wpT P ops Q r S (a.put o.dst undef) w') : wpT P ops Q (.mk i r) S a w :=
  ⟨o, ho, by
    unfold canOp
    rw [if_pos hw, if_neg (by simp)]
    unfold Oper.wp
    rw [hrun]
    exact ⟨S, hS, fun _ h => h, h⟩⟩
/-- four cells stored at a row's last element -/
def set4 (w : World) (g o : Nat) (a b c d : Value) : World := (((w.setCell ⟨g, o, none⟩ a).setCell ⟨g, o + 1, none⟩ b).setCell ⟨g, o + 2, none⟩ c).setCell ⟨g, o + 3, none⟩ d
theorem exec_store4 {P : Program} {ev : Operand → Value} {T : TypeId} {p x : Operand} {o : Oper} {w : World} {g off : Nat} {k : Int} {s t : ByteArray} {A : Option Addr} {n c : Nat} {z0 z1 z2 z3 : Value} (ho : o.op = .store T p x) (hsz : (sizeOf T).run P w = .ok 4 w) (hp : ev p = .pointer (some ⟨g, off, none⟩)) (hx : ev x = .agg #[.int .i64 k, .string s, .string t, .slice A n c])
    (h0 : w.cell? ⟨g, off, none⟩ = some z0) (h1 : w.cell? ⟨g, off + 1, none⟩ = some z1) (h2 : w.cell? ⟨g, off + 2, none⟩ = some z2) (h3 : w.cell? ⟨g, off + 3, none⟩ = some z3) (hf : ∀ j, w.frozen? ⟨g, j, none⟩ = false) :
    (execOp ev o).run P w = .ok .skip (set4 w g off (.int .i64 k) (.string s) (.string t) (.slice A n c)) := by
  unfold execOp set4
  rw [ho]
  go_simp
theorem exec_store1 {P : Program} {ev : Operand → Value} {T : TypeId} {p x : Operand} {o : Oper} {w : World} {g off : Nat} {A : Option Addr} {n c : Nat} {z0 : Value} (ho : o.op = .store T p x) (hsz : (sizeOf T).run P w = .ok 1 w) (hp : ev p = .pointer (some ⟨g, off, none⟩)) (hx : ev x = .slice A n c)
    (h0 : w.cell? ⟨g, off, none⟩ = some z0) (hf : ∀ j, w.frozen? ⟨g, j, none⟩ = false) :
    (execOp ev o).run P w = .ok .skip (w.setCell ⟨g, off, none⟩ (.slice A n c)) := by
  unfold execOp
  rw [ho]
  go_simp
end Go.Proofs.YtkfhkfagmokjpaaGreatDoor

namespace Go.Proofs.YtkfhkfagmokjpaaGreatDoor
open Go.RowKit
attribute [local go_sem] canOp readsAs readUpon

theorem hq_some {w : World} {B size n : Nat} {E : TypeId} {v : Value} {xs : List Value} (h : w.ownsRow B E size v n xs) (hn : 0 < n) : ∃ g c, v = .slice (some ⟨g, 0, none⟩) n c ∧ n ≤ c ∧ B ≤ g ∧ g < w.heap.size := by
  rcases h.2 with ⟨_, h0⟩ | ⟨g, c, cur, rfl, hB, hg, hc, _⟩
  · omega
  · exact ⟨g, c, rfl, hc, hB, (Array.getElem?_eq_some_iff.1 hg).1⟩
theorem own_or {v : Value} {x : Option Nat} (h : ∀ b, v.ownBlock = some b → some b ≠ x) : v.ownBlock = none ∨ v.ownBlock ≠ x := by
  cases hb : v.ownBlock with
  | none => exact .inl rfl
  | some b => exact .inr (h b hb)
theorem keep_cell {w w' : World} {g : Nat} (h : w'.heap[g]? = w.heap[g]?) (j : Nat) {v : Value} (hc : w.cell? ⟨g, j, none⟩ = some v) : w'.cell? ⟨g, j, none⟩ = some v := by
  rw [World.cell?_of_block (a := ⟨g, j, none⟩) h]; exact hc
theorem keep_frz {w w' : World} {g : Nat} (h : w'.heap[g]? = w.heap[g]?) (hf : ∀ j, w.frozen? ⟨g, j, none⟩ = false) (j : Nat) : w'.frozen? ⟨g, j, none⟩ = false := by
  rw [World.frozen?_of_block (a := ⟨g, j, none⟩) h]; exact hf j
theorem grown_drew {w w' : World} {r : Option Nat} (h : w.drew.grownBy w' r) : w.grownBy w' r := ⟨h.os, h.tape, h.output, h.size, h.block⟩
/-- append of a row, as a maker of a tree -/
theorem wpT_app {P : Program} {ops : Array Oper} {Q : Exit → Act → World → Prop} {S : World → Prop} {i : Nat} {r : OT} {a : Act} {w : World} {o : Oper} (ho : ops[i]? = some o) (hg : o.guard = none) (s x : Operand) {T : TypeId}
    (hop : o.op = .call { callee := .builtin .append, args := #[s, x], argTypes := #[T, T] })
    {E : TypeId} {size bytes : Nat} (hE : EI P T E size bytes) {base n : Nat} {v : Value} {xs : List Value} (hs : a.eval s = v) (hown : w.ownsRow base E size v n xs)
    {B m c : Nat} {A : Option Addr} {news : List Value} (hx : a.eval x = .slice A m c) (hr : Row w B size A m news) (h1 : ∀ u ∈ news, u.oneCell' = true) (h63 : n + m ≤ 1000000000000) (hbytes : bytes ≤ 100) (hbase : base ≤ w.heap.size)
    (h : ∀ v' w', w'.ownsRow base E size v' (n + m) (xs ++ news) → Hid (w.grownBy w' v.ownBlock) → Below base w w' → Hid (At w.heap.size v v') → ∃ S' : World → Prop, S' w' ∧ (∀ u, S' u → S u) ∧ wpT P ops Q r S' (a.put o.dst v') w') :
    wpT P ops Q (.mk i r) S a w :=
  ⟨o, ho, by
    unfold canOp
    rw [if_pos (by simp [Region.wanted, hg]), if_neg (by simp)]
    exact wp_app_row_at s x hop hE hs hown hx hr h1 h63 hbytes hbase h⟩
theorem set4_own {w : World} {B g n c : Nat} {E : TypeId} {xs : List Value} {z0 z1 z2 z3 : Value} (ho : w.ownsRow B E 4 (.slice (some ⟨g, 0, none⟩) (n + 1) c) (n + 1) (xs ++ [z0, z1, z2, z3])) (hx : xs.length = n * 4) (a b c' d : Value) :
    (set4 w g (n * 4) a b c' d).ownsRow B E 4 (.slice (some ⟨g, 0, none⟩) (n + 1) c) (n + 1) (xs ++ [a, b, c', d]) := by
  have h1 := (World.ownsRow.stored ho (n * 4) a).1
  have h2 := (World.ownsRow.stored h1 (n * 4 + 1) b).1
  have h3 := (World.ownsRow.stored h2 (n * 4 + 2) c').1
  have h4 := (World.ownsRow.stored h3 (n * 4 + 3) d).1
  have e : ((((xs ++ [z0, z1, z2, z3]).set (n * 4) a).set (n * 4 + 1) b).set (n * 4 + 2) c').set (n * 4 + 3) d = xs ++ [a, b, c', d] := by
    rw [← hx]
    simp
  rw [e] at h4
  exact h4
theorem set4_grown (w : World) (g o : Nat) (a b c d : Value) : w.grownBy (set4 w g o a b c d) (some g) := by
  have h1 := grown_set w ⟨g, o, none⟩ a
  have h2 := grown_set (w.setCell ⟨g, o, none⟩ a) ⟨g, o + 1, none⟩ b
  have h3 := grown_set ((w.setCell ⟨g, o, none⟩ a).setCell ⟨g, o + 1, none⟩ b) ⟨g, o + 2, none⟩ c
  have h4 := grown_set (((w.setCell ⟨g, o, none⟩ a).setCell ⟨g, o + 1, none⟩ b).setCell ⟨g, o + 2, none⟩ c) ⟨g, o + 3, none⟩ d
  refine ⟨by rw [set4, h4.os, h3.os, h2.os, h1.os], by rw [set4, h4.tape, h3.tape, h2.tape, h1.tape], by rw [set4, h4.output, h3.output, h2.output, h1.output], Nat.le_trans (Nat.le_trans (Nat.le_trans h1.size h2.size) h3.size) h4.size, fun k hk hne => ?_⟩
  have z1 := h1.size
  have z2 := h2.size
  have z3 := h3.size
  exact (h4.block k (by omega) hne).trans ((h3.block k (by omega) hne).trans ((h2.block k (by omega) hne).trans (h1.block k hk hne)))
/-- what changed where it may -/
theorem grown_at {w w1 w2 : World} {v v' : Value} {g : Nat} (h1 : w.grownBy w1 v.ownBlock) (hat : At w.heap.size v v') (hv : v'.ownBlock = some g) (h2 : w1.grownBy w2 (some g)) : w.grownBy w2 v.ownBlock :=
  ⟨h2.os.trans h1.os, h2.tape.trans h1.tape, h2.output.trans h1.output, Nat.le_trans h1.size h2.size, fun k hk hne => by
    have := h1.size
    refine (h2.block k (by omega) (fun e => ?_)).trans (h1.block k hk hne)
    injection e with e
    subst e
    rcases hat k hv with e | e
    · exact hne e.symm
    · omega⟩
theorem at_new {w : World} {o : Obj} {v v' : Value} (h : At (w.drew.alloc o).heap.size v v') : At w.heap.size v v' := fun g hg => (h g hg).imp id (fun e => by simp at e; omega)
section
variable {m : Ky → Option Pa} {k : Ks} {C : Value → Value → Pa} {R : Il.Rw} {vi vp : Value} {css : List (List Value)} {w w' : World} {B g o : Nat}
theorem rowm_inl2 (hk : k.ok) {R' : Il.Rw} {vi' : Value} {css' : List (List Value)} (hp : R'.p = R.p) (hB : B ≤ w.heap.size) (h : Hq w B (rowm m k C R vi vp css)) (hg : w.grownBy w' vi.ownBlock) (ho : w'.ownsRow B 41 4 vi' R'.l.length css'.flatten) (hv : vi'.ownBlock = vi.ownBlock) (hc : C vi' vp = C vi vp) :
    Turn B (rowm m k C R vi vp css) w (rowm m k C R' vi' vp css') w' := by
  have t := h.tput (k := k.i) (rinl R' vi' css') (rowm_i hk) hg ho (fun g hg => .inl (by
    have e : vi'.ownBlock = some g := hg
    show vi.ownBlock = some g
    rw [← hv]; exact e)) hB
  have e : uq (rowm m k C R vi vp css) k.i (rinl R' vi' css') = rowm m k C R' vi' vp css' := by
    have : rpln R' vp = rpln R vp := by unfold rpln; rw [hp]
    unfold rowm
    rw [this, uq_comm _ hk.ip, uq_uq, hc]
  rwa [e] at t
/-- the plain text is none -/
theorem rowm_none (hk : k.ok) (hC : Cn g o C) {A : Option Addr} {n c : Nat} (h : Hq w B (rowm m k C R vi (.slice A n c) css)) (hB : B ≤ w.heap.size) :
    Turn B (rowm m k C R vi (.slice A n c) css) w (rowm m k C ⟨R.l, []⟩ vi (.slice A 0 c) css) (w.setCell ⟨g, o + 1, none⟩ (.slice A 0 c)) := by
  obtain ⟨_, _, _, _, _, _, op, _, _⟩ := rowm_all hk hC h
  have ho : w.ownsRow B 5 1 (.slice A 0 c) 0 [] := by
    refine ⟨rfl, ?_⟩
    rcases op.2 with ⟨e, _⟩ | ⟨g', cap, cur, e, h1, h2, h3, h4, h5, h6⟩
    · injection e with e1 e2 e3; subst e1 e3; exact .inl ⟨rfl, rfl⟩
    · injection e with e1 e2 e3; subst e1 e3; exact .inr ⟨g', c, cur, rfl, h1, h2, Nat.zero_le _, h4, h5, by simp⟩
  refine rowm_pln hk hC h hB (R' := ⟨R.l, []⟩) rfl (World.grownBy.refl w _) ho (fun g hg => .inl ?_)
  cases A with
  | none => cases hg
  | some a => exact hg

set_option maxHeartbeats 8000000 in
set_option maxRecDepth 100000 in
theorem pall_some (hk : k.ok) (hC : Cn g o C) (h : Hq w B (rowm m k C R vi vp css)) (hI : ICs w (Fr w B (rowm m k C R vi vp css)) R.l css) (hB : B ≤ w.heap.size) (hp : R.p ≠ []) (hl : R.p.length ≤ 100000000000) (hll : R.l.length ≤ 100000000000) :
    Calls Tryz.prog 43 #[.pointer (some ⟨g, o, none⟩)] w fun e w' => ∃ vi', e = .returned vi' ∧ ∃ vp' css', Turn B (rowm m k C R vi vp css) w (rowm m k C ⟨R.full, []⟩ vi' vp' css') w' ∧ ICs w' (Fr w' B (rowm m k C ⟨R.full, []⟩ vi' vp' css')) R.full css' := by
  obtain ⟨c0, c1, cf, hBg, hgz, oi, op, nei, nep⟩ := rowm_all hk hC h
  have hpl : 0 < R.p.length := List.length_pos_iff.2 hp
  have hfull : Hid (R.full = R.l ++ [Il.word R.p]) := Lib.hid (by unfold Il.Rw.full; rw [if_neg hp])
  obtain ⟨A, c, rfl, hc3⟩ := own_shape op
  obtain ⟨A2, c2, rfl, hc4⟩ := own_shape oi
  have nip : ∀ b, (Value.slice A R.p.length c).ownBlock = some b → (Value.slice A2 R.l.length c2).ownBlock ≠ some b := fun b hb hb2 => hk.ip (h.apart _ _ _ _ b rowm_p (rowm_i hk) hb hb2)
  have hcv := fun (u : World) (hu : u.ownsRow B 5 1 (.slice A R.p.length c) R.p.length (bcells R.p)) => run_text (c := c) (Row.own hu) 22 5 9 Tryz.underlying22 (by kernel_rfl) Tryz.underlying9
  have hS : (fun u : World => u.cell? ⟨g, o + 1, none⟩ = some (.slice A R.p.length c) ∧ u.ownsRow B 5 1 (.slice A R.p.length c) R.p.length (bcells R.p)) w.drew := ⟨c1, op.drew⟩
  have hS1 : (fun u : World => u.cell? ⟨g, o + 1, none⟩ = some (.slice A R.p.length c) ∧ u.ownsRow B 5 1 (.slice A R.p.length c) R.p.length (bcells R.p)) (w.drew.alloc (.cells #[.int .i64 0, .string ⟨#[]⟩, .string ⟨#[]⟩, .slice none 0 0] 41)) := ⟨(World.cell?_alloc_lt _ _ _ hgz).trans c1, op.drew.alloc _⟩
  go_enter Tryz.func43, Tryz.ntmps43
  go_upto_region 2 with fail
  refine wp_region_tree (.rd 0 (.rd 1 (.rd 2 (.rd 4 (.rd 5 (.rd 6 (.rd 7 (.rd 8 (.rd 9 (.fk 3 (.rd 10 (.mk 11 (.mk 12 (.rd 13 (.rd 15 (.rd 16 (.fk 14 (.mk 17 .fin) 17 (.mk 14 .fin)))))))) 11 (.mk 3 (.rd 10 (.mk 12 (.rd 13 (.rd 15 (.rd 16 (.fk 14 (.mk 17 .fin) 17 (.mk 14 .fin)))))))))))))))))) (fun u : World => u.cell? ⟨g, o + 1, none⟩ = some (.slice A R.p.length c) ∧ u.ownsRow B 5 1 (.slice A R.p.length c) R.p.length (bcells R.p)) hS (by kernel_rfl) (by kernel_rfl) (by kernel_rfl) (fun _ _ d _ _ h => by cases d <;> exact h) ?_
  (first | refine wpT_move rfl ?_ | (refine wpT_rd rfl ?_; intro K hK; go_simp; refine hK _ _ _ ?_; clear hK K))
  (first | refine wpT_move rfl ?_ | (refine wpT_rd rfl ?_; intro K hK; go_simp; refine hK _ _ _ ?_; clear hK K))
  (first | refine wpT_move rfl ?_ | (refine wpT_rd rfl ?_; intro K hK; go_simp; refine hK _ _ _ ?_; clear hK K))
  (first | refine wpT_move rfl ?_ | (refine wpT_rd rfl ?_; intro K hK; go_simp; refine hK _ _ _ ?_; clear hK K))
  (first | refine wpT_move rfl ?_ | (refine wpT_rd rfl ?_; intro K hK; go_simp; refine hK _ _ _ ?_; clear hK K))
  (first | refine wpT_move rfl ?_ | (refine wpT_rd rfl ?_; intro K hK; go_simp; refine hK _ _ _ ?_; clear hK K))
  refine wpT_read (.slice A R.p.length c) rfl rfl hS (fun u hu => by have h1 := hu.1; go_simp) ?_
  refine wpT_read (.string (bs R.p)) rfl rfl hS (fun u hu => by have h1 := hcv u hu.2; go_simp) ?_
  (first | refine wpT_move rfl ?_ | (refine wpT_rd rfl ?_; intro K hK; go_simp; refine hK _ _ _ ?_; clear hK K))
  refine wpT_fk ?wa ?wb
  case' wa =>
    refine wpT_mk rfl ?_
    intro K hK
    go_simp
    refine ⟨_, hS, fun _ h => h, hK _ _ _ ?_⟩
    clear hK K
    (first | refine wpT_move rfl ?_ | (refine wpT_rd rfl ?_; intro K hK; go_simp; refine hK _ _ _ ?_; clear hK K))
    refine wpT_mk rfl ?_
    intro K hK
    go_simp
    refine ⟨_, hS1, fun _ h => h, hK _ _ _ ?_⟩
    clear hK K
    refine wpT_app rfl rfl (.tmp 12) (.tmp 20) rfl inlEI (v := .slice A2 R.l.length c2) rfl (oi.drew.alloc _) rfl (Row.freshN w.drew 41 _ rfl rfl) (by intro u hu; simp at hu; rcases hu with rfl | rfl | rfl | rfl <;> rfl) (by omega) (by omega) (by simp; omega) ?_
    intro v' w' ho hg hb hat
    obtain ⟨g', c', rfl, hc', hBg', hgz'⟩ := hq_some ho (by omega)
    have hat2 := at_new (w := w) hat.out
    have hgw : w.grownBy w' (Value.slice A2 R.l.length c2).ownBlock := grown_new (w0 := w) (grown_drew hg.out)
    have hnew : ∀ b, b < w.heap.size → (Value.slice A2 R.l.length c2).ownBlock ≠ some b → b ≠ g' := fun b hb hne e => by
      subst e
      rcases hat2 b rfl with e | e
      · exact hne e
      · omega
    have hgg : g ≠ g' := hnew g hgz nei
    obtain ⟨d0, d1, df, dz⟩ := rowm_stay hk hC h hgw (fun e => nei e)
    have op2 : w'.ownsRow B 5 1 (.slice A R.p.length c) R.p.length (bcells R.p) := World.ownsRow.kept op hgw (own_or (fun b hb e => nip b hb e.symm))
    have hpg : (Value.slice A R.p.length c).ownBlock = none ∨ (Value.slice A R.p.length c).ownBlock ≠ some g' := own_or (fun b hb e => hnew b (World.ownsRow.lt op b hb).2 (nip b hb) (Option.some.inj e))
    have hpo : (Value.slice A R.p.length c).ownBlock = none ∨ (Value.slice A R.p.length c).ownBlock ≠ some g := .inr nep
    have hS2 : (fun u : World => u.cell? ⟨g, o + 1, none⟩ = some (.slice A R.p.length c) ∧ u.ownsRow B 5 1 (.slice A R.p.length c) R.p.length (bcells R.p)) w' := ⟨d1, op2⟩
    refine ⟨_, hS2, fun _ h => h, ?_⟩
    have ff := fun j => World.ownsRow.frozenAt ho j
    have hlt1 : (0 : Int) ≤ (R.l.length : Int) := by omega
    have hlt2 : (R.l.length : Int) < (R.l.length : Int) + 1 := by omega
    have hcl := ICs_length hI
    have e0 : w'.cell? ⟨g', R.l.length * 4, none⟩ = some (.int .i64 0) := il_own_cell ho (by rw [List.getElem?_append_right (by omega), hcl, show R.l.length * 4 - R.l.length * 4 = 0 by omega]; rfl)
    have e1 : w'.cell? ⟨g', R.l.length * 4 + 1, none⟩ = some (.string ⟨#[]⟩) := il_own_cell ho (by rw [List.getElem?_append_right (by omega), hcl, show R.l.length * 4 + 1 - R.l.length * 4 = 1 by omega]; rfl)
    have e2 : w'.cell? ⟨g', R.l.length * 4 + 2, none⟩ = some (.string ⟨#[]⟩) := il_own_cell ho (by rw [List.getElem?_append_right (by omega), hcl, show R.l.length * 4 + 2 - R.l.length * 4 = 2 by omega]; rfl)
    have e3 : w'.cell? ⟨g', R.l.length * 4 + 3, none⟩ = some (.slice none 0 0) := il_own_cell ho (by rw [List.getElem?_append_right (by omega), hcl, show R.l.length * 4 + 3 - R.l.length * 4 = 3 by omega]; rfl)
    (first | refine wpT_move rfl ?_ | (refine wpT_rd rfl ?_; intro K hK; go_simp; refine hK _ _ _ ?_; clear hK K))
    (first | refine wpT_move rfl ?_ | (refine wpT_rd rfl ?_; intro K hK; go_simp; refine hK _ _ _ ?_; clear hK K))
    (first | refine wpT_move rfl ?_ | (refine wpT_rd rfl ?_; intro K hK; go_simp; refine hK _ _ _ ?_; clear hK K))
    have ho4 := set4_own ho hcl (.int .i64 0) (.string (bs R.p)) (.string ⟨#[]⟩) (.slice none 0 0)
    have hg4 := set4_grown w' g' (R.l.length * 4) (.int .i64 0) (.string (bs R.p)) (.string ⟨#[]⟩) (.slice none 0 0)
    have hleaf : (css ++ [[Value.int .i64 0, .string (bs R.p), .string ⟨#[]⟩, .slice none 0 0]]).flatten = css.flatten ++ [.int .i64 0, .string (bs R.p), .string ⟨#[]⟩, .slice none 0 0] := by simp
    have hlen : (⟨R.l ++ [Il.word R.p], R.p⟩ : Il.Rw).l.length = R.l.length + 1 := by simp
    refine wpT_fk ?wc ?wd
    case' wc =>
      have hS3 : (fun u : World => u.cell? ⟨g, o + 1, none⟩ = some (.slice A R.p.length c) ∧ u.ownsRow B 5 1 (.slice A R.p.length c) R.p.length (bcells R.p)) (set4 w' g' (R.l.length * 4) (.int .i64 0) (.string (bs R.p)) (.string ⟨#[]⟩) (.slice none 0 0)) := ⟨keep_cell (hg4.block g dz (fun e => hgg (Option.some.inj e))) _ d1, World.ownsRow.kept op2 hg4 hpg⟩
      refine wpT_store rfl rfl (exec_store4 rfl (by kernel_rfl) rfl rfl e0 e1 e2 e3 ff) hS3 ?_
      have t := rowm_inl hk hC h hB (R' := ⟨R.l ++ [Il.word R.p], R.p⟩) (css' := css ++ [[Value.int .i64 0, .string (bs R.p), .string ⟨#[]⟩, .slice none 0 0]]) rfl (grown_at hgw hat2 rfl hg4) (by rw [hlen, hleaf]; exact ho4) hat2
      have k0 : (set4 w' g' (R.l.length * 4) (.int .i64 0) (.string (bs R.p)) (.string ⟨#[]⟩) (.slice none 0 0)).cell? ⟨g, o, none⟩ = some (.slice A2 R.l.length c2) := keep_cell (hg4.block g dz (fun e => hgg (Option.some.inj e))) _ d0
      have kf : ∀ j, (set4 w' g' (R.l.length * 4) (.int .i64 0) (.string (bs R.p)) (.string ⟨#[]⟩) (.slice none 0 0)).frozen? ⟨g, j, none⟩ = false := keep_frz (hg4.block g dz (fun e => hgg (Option.some.inj e))) df
      have hS4 : (fun u : World => u.cell? ⟨g, o + 1, none⟩ = some (.slice A R.p.length c) ∧ u.ownsRow B 5 1 (.slice A R.p.length c) R.p.length (bcells R.p)) ((set4 w' g' (R.l.length * 4) (.int .i64 0) (.string (bs R.p)) (.string ⟨#[]⟩) (.slice none 0 0)).setCell ⟨g, o, none⟩ (.slice (some ⟨g', 0, none⟩) (R.l.length + 1) c')) := ⟨(World.cell?_setCell_other _ ⟨g, o, none⟩ ⟨g, o + 1, none⟩ _ (by intro h; injection h with _ h2 _; omega)).trans hS3.1, World.ownsRow.kept hS3.2 (grown_set _ ⟨g, o, none⟩ _) hpo⟩
      refine wpT_store rfl rfl (exec_store1 rfl (by kernel_rfl) rfl rfl k0 kf) hS4 ?_
      clear hS3 hS4 k0 kf
      generalize World.setCell _ _ _ = W at t ⊢
      have hI2 := ICs_snoc (t := Il.word R.p) (cs := [Value.int .i64 0, .string (bs R.p), .string ⟨#[]⟩, .slice none 0 0]) (t.kids hI) (IC_leaf 0 R.p [])
      have hB2 := Nat.le_trans hB t.bel.size
      obtain ⟨f0, f1, ffz, _, fgz, _, _, _, _⟩ := rowm_all hk hC t.hp
      have t3 := Lib.hid (t.trans (rowm_none hk hC t.hp hB2))
      have hI3 := Lib.hid ((rowm_none hk hC t.hp hB2).kids hI2)
      rw [← hfull.out] at t3 hI3
      clear t hI2 e0 e1 e2 e3 d0 d1 df ff ho hg hb hat hgw op2 hS2 ho4 hg4 hleaf hlen hS hS1 hcv c0 c1 cf oi op h hI hpg hpo nei nep nip hat2 hnew
      refine wpT_fin ?_
      go_wp2_with fail
      go_ret
      exact ⟨_, rfl, _, _, t3.out, hI3.out⟩
    case' wd =>
      have hS3 : (fun u : World => u.cell? ⟨g, o + 1, none⟩ = some (.slice A R.p.length c) ∧ u.ownsRow B 5 1 (.slice A R.p.length c) R.p.length (bcells R.p)) (w'.setCell ⟨g, o, none⟩ (.slice (some ⟨g', 0, none⟩) (R.l.length + 1) c')) := ⟨(World.cell?_setCell_other _ ⟨g, o, none⟩ ⟨g, o + 1, none⟩ _ (by intro h; injection h with _ h2 _; omega)).trans d1, World.ownsRow.kept op2 (grown_set _ ⟨g, o, none⟩ _) hpo⟩
      refine wpT_store rfl rfl (exec_store1 rfl (by kernel_rfl) rfl rfl d0 df) hS3 ?_
      have tz := rowm_inl hk hC h hB (R' := ⟨R.l ++ [Il.word R.p], R.p⟩) (css' := css ++ [[Value.int .i64 0, .string ⟨#[]⟩, .string ⟨#[]⟩, .slice none 0 0]]) rfl hgw (by rw [hlen]; simpa using ho) hat2
      have gk : w'.grownBy (w'.setCell ⟨g, o, none⟩ (.slice (some ⟨g', 0, none⟩) (R.l.length + 1) c')) (some g) := grown_set _ ⟨g, o, none⟩ _
      have hoz : (w'.setCell ⟨g, o, none⟩ (.slice (some ⟨g', 0, none⟩) (R.l.length + 1) c')).ownsRow B 41 4 (.slice (some ⟨g', 0, none⟩) (R.l.length + 1) c') (R.l.length + 1) (css.flatten ++ [.int .i64 0, .string ⟨#[]⟩, .string ⟨#[]⟩, .slice none 0 0]) := World.ownsRow.kept ho gk (.inr (fun e => hgg (Option.some.inj e).symm))
      have fz := fun j => World.ownsRow.frozenAt hoz j
      have z0 : (w'.setCell ⟨g, o, none⟩ (.slice (some ⟨g', 0, none⟩) (R.l.length + 1) c')).cell? ⟨g', R.l.length * 4, none⟩ = some (.int .i64 0) := il_own_cell hoz (by rw [List.getElem?_append_right (by omega), hcl, show R.l.length * 4 - R.l.length * 4 = 0 by omega]; rfl)
      have z1 : (w'.setCell ⟨g, o, none⟩ (.slice (some ⟨g', 0, none⟩) (R.l.length + 1) c')).cell? ⟨g', R.l.length * 4 + 1, none⟩ = some (.string ⟨#[]⟩) := il_own_cell hoz (by rw [List.getElem?_append_right (by omega), hcl, show R.l.length * 4 + 1 - R.l.length * 4 = 1 by omega]; rfl)
      have z2 : (w'.setCell ⟨g, o, none⟩ (.slice (some ⟨g', 0, none⟩) (R.l.length + 1) c')).cell? ⟨g', R.l.length * 4 + 2, none⟩ = some (.string ⟨#[]⟩) := il_own_cell hoz (by rw [List.getElem?_append_right (by omega), hcl, show R.l.length * 4 + 2 - R.l.length * 4 = 2 by omega]; rfl)
      have z3 : (w'.setCell ⟨g, o, none⟩ (.slice (some ⟨g', 0, none⟩) (R.l.length + 1) c')).cell? ⟨g', R.l.length * 4 + 3, none⟩ = some (.slice none 0 0) := il_own_cell hoz (by rw [List.getElem?_append_right (by omega), hcl, show R.l.length * 4 + 3 - R.l.length * 4 = 3 by omega]; rfl)
      have hg5 := set4_grown (w'.setCell ⟨g, o, none⟩ (.slice (some ⟨g', 0, none⟩) (R.l.length + 1) c')) g' (R.l.length * 4) (.int .i64 0) (.string (bs R.p)) (.string ⟨#[]⟩) (.slice none 0 0)
      have hS4 : (fun u : World => u.cell? ⟨g, o + 1, none⟩ = some (.slice A R.p.length c) ∧ u.ownsRow B 5 1 (.slice A R.p.length c) R.p.length (bcells R.p)) (set4 (w'.setCell ⟨g, o, none⟩ (.slice (some ⟨g', 0, none⟩) (R.l.length + 1) c')) g' (R.l.length * 4) (.int .i64 0) (.string (bs R.p)) (.string ⟨#[]⟩) (.slice none 0 0)) := ⟨keep_cell (hg5.block g (Nat.lt_of_lt_of_le dz gk.size) (fun e => hgg (Option.some.inj e))) _ hS3.1, World.ownsRow.kept hS3.2 hg5 hpg⟩
      have t := tz.trans (rowm_inl2 hk (R' := ⟨R.l ++ [Il.word R.p], R.p⟩) (css' := css ++ [[Value.int .i64 0, .string (bs R.p), .string ⟨#[]⟩, .slice none 0 0]]) rfl (Nat.le_trans hB tz.bel.size) tz.hp hg5 (by rw [hlen, hleaf]; exact set4_own hoz hcl (.int .i64 0) (.string (bs R.p)) (.string ⟨#[]⟩) (.slice none 0 0)) rfl rfl)
      refine wpT_store rfl rfl (exec_store4 rfl (by kernel_rfl) rfl rfl z0 z1 z2 z3 fz) hS4 ?_
      clear hS4 z0 z1 z2 z3 fz
      generalize set4 _ _ _ _ _ _ _ = W at t ⊢
      clear hS3 tz gk hoz hg5
      have hI2 := ICs_snoc (t := Il.word R.p) (cs := [Value.int .i64 0, .string (bs R.p), .string ⟨#[]⟩, .slice none 0 0]) (t.kids hI) (IC_leaf 0 R.p [])
      have hB2 := Nat.le_trans hB t.bel.size
      obtain ⟨f0, f1, ffz, _, fgz, _, _, _, _⟩ := rowm_all hk hC t.hp
      have t3 := Lib.hid (t.trans (rowm_none hk hC t.hp hB2))
      have hI3 := Lib.hid ((rowm_none hk hC t.hp hB2).kids hI2)
      rw [← hfull.out] at t3 hI3
      clear t hI2 e0 e1 e2 e3 d0 d1 df ff ho hg hb hat hgw op2 hS2 ho4 hg4 hleaf hlen hS hS1 hcv c0 c1 cf oi op h hI hpg hpo nei nep nip hat2 hnew
      refine wpT_fin ?_
      go_wp2_with fail
      go_ret
      exact ⟨_, rfl, _, _, t3.out, hI3.out⟩
  case' wb =>
    have c0' := (World.cell?_alloc_lt w.drew (.cells #[.int .i64 0, .string ⟨#[]⟩, .string ⟨#[]⟩, .slice none 0 0] 41) ⟨g, o, none⟩ hgz).trans c0
    refine wpT_mk rfl ?_
    intro K hK
    go_simp
    refine ⟨_, hS1, fun _ h => h, hK _ _ _ ?_⟩
    clear hK K
    refine wpT_mk rfl ?_
    intro K hK
    go_simp
    refine ⟨_, hS1, fun _ h => h, hK _ _ _ ?_⟩
    clear hK K
    (first | refine wpT_move rfl ?_ | (refine wpT_rd rfl ?_; intro K hK; go_simp; refine hK _ _ _ ?_; clear hK K))
    refine wpT_app rfl rfl (.tmp 12) (.tmp 20) rfl inlEI (v := .slice A2 R.l.length c2) rfl (oi.drew.alloc _) rfl (Row.freshN w.drew 41 _ rfl rfl) (by intro u hu; simp at hu; rcases hu with rfl | rfl | rfl | rfl <;> rfl) (by omega) (by omega) (by simp; omega) ?_
    intro v' w' ho hg hb hat
    obtain ⟨g', c', rfl, hc', hBg', hgz'⟩ := hq_some ho (by omega)
    have hat2 := at_new (w := w) hat.out
    have hgw : w.grownBy w' (Value.slice A2 R.l.length c2).ownBlock := grown_new (w0 := w) (grown_drew hg.out)
    have hnew : ∀ b, b < w.heap.size → (Value.slice A2 R.l.length c2).ownBlock ≠ some b → b ≠ g' := fun b hb hne e => by
      subst e
      rcases hat2 b rfl with e | e
      · exact hne e
      · omega
    have hgg : g ≠ g' := hnew g hgz nei
    obtain ⟨d0, d1, df, dz⟩ := rowm_stay hk hC h hgw (fun e => nei e)
    have op2 : w'.ownsRow B 5 1 (.slice A R.p.length c) R.p.length (bcells R.p) := World.ownsRow.kept op hgw (own_or (fun b hb e => nip b hb e.symm))
    have hpg : (Value.slice A R.p.length c).ownBlock = none ∨ (Value.slice A R.p.length c).ownBlock ≠ some g' := own_or (fun b hb e => hnew b (World.ownsRow.lt op b hb).2 (nip b hb) (Option.some.inj e))
    have hpo : (Value.slice A R.p.length c).ownBlock = none ∨ (Value.slice A R.p.length c).ownBlock ≠ some g := .inr nep
    have hS2 : (fun u : World => u.cell? ⟨g, o + 1, none⟩ = some (.slice A R.p.length c) ∧ u.ownsRow B 5 1 (.slice A R.p.length c) R.p.length (bcells R.p)) w' := ⟨d1, op2⟩
    refine ⟨_, hS2, fun _ h => h, ?_⟩
    have ff := fun j => World.ownsRow.frozenAt ho j
    have hlt1 : (0 : Int) ≤ (R.l.length : Int) := by omega
    have hlt2 : (R.l.length : Int) < (R.l.length : Int) + 1 := by omega
    have hcl := ICs_length hI
    have e0 : w'.cell? ⟨g', R.l.length * 4, none⟩ = some (.int .i64 0) := il_own_cell ho (by rw [List.getElem?_append_right (by omega), hcl, show R.l.length * 4 - R.l.length * 4 = 0 by omega]; rfl)
    have e1 : w'.cell? ⟨g', R.l.length * 4 + 1, none⟩ = some (.string ⟨#[]⟩) := il_own_cell ho (by rw [List.getElem?_append_right (by omega), hcl, show R.l.length * 4 + 1 - R.l.length * 4 = 1 by omega]; rfl)
    have e2 : w'.cell? ⟨g', R.l.length * 4 + 2, none⟩ = some (.string ⟨#[]⟩) := il_own_cell ho (by rw [List.getElem?_append_right (by omega), hcl, show R.l.length * 4 + 2 - R.l.length * 4 = 2 by omega]; rfl)
    have e3 : w'.cell? ⟨g', R.l.length * 4 + 3, none⟩ = some (.slice none 0 0) := il_own_cell ho (by rw [List.getElem?_append_right (by omega), hcl, show R.l.length * 4 + 3 - R.l.length * 4 = 3 by omega]; rfl)
    (first | refine wpT_move rfl ?_ | (refine wpT_rd rfl ?_; intro K hK; go_simp; refine hK _ _ _ ?_; clear hK K))
    (first | refine wpT_move rfl ?_ | (refine wpT_rd rfl ?_; intro K hK; go_simp; refine hK _ _ _ ?_; clear hK K))
    (first | refine wpT_move rfl ?_ | (refine wpT_rd rfl ?_; intro K hK; go_simp; refine hK _ _ _ ?_; clear hK K))
    have ho4 := set4_own ho hcl (.int .i64 0) (.string (bs R.p)) (.string ⟨#[]⟩) (.slice none 0 0)
    have hg4 := set4_grown w' g' (R.l.length * 4) (.int .i64 0) (.string (bs R.p)) (.string ⟨#[]⟩) (.slice none 0 0)
    have hleaf : (css ++ [[Value.int .i64 0, .string (bs R.p), .string ⟨#[]⟩, .slice none 0 0]]).flatten = css.flatten ++ [.int .i64 0, .string (bs R.p), .string ⟨#[]⟩, .slice none 0 0] := by simp
    have hlen : (⟨R.l ++ [Il.word R.p], R.p⟩ : Il.Rw).l.length = R.l.length + 1 := by simp
    refine wpT_fk ?we ?wf
    case' we =>
      have hS3 : (fun u : World => u.cell? ⟨g, o + 1, none⟩ = some (.slice A R.p.length c) ∧ u.ownsRow B 5 1 (.slice A R.p.length c) R.p.length (bcells R.p)) (set4 w' g' (R.l.length * 4) (.int .i64 0) (.string (bs R.p)) (.string ⟨#[]⟩) (.slice none 0 0)) := ⟨keep_cell (hg4.block g dz (fun e => hgg (Option.some.inj e))) _ d1, World.ownsRow.kept op2 hg4 hpg⟩
      refine wpT_store rfl rfl (exec_store4 rfl (by kernel_rfl) rfl rfl e0 e1 e2 e3 ff) hS3 ?_
      have t := rowm_inl hk hC h hB (R' := ⟨R.l ++ [Il.word R.p], R.p⟩) (css' := css ++ [[Value.int .i64 0, .string (bs R.p), .string ⟨#[]⟩, .slice none 0 0]]) rfl (grown_at hgw hat2 rfl hg4) (by rw [hlen, hleaf]; exact ho4) hat2
      have k0 : (set4 w' g' (R.l.length * 4) (.int .i64 0) (.string (bs R.p)) (.string ⟨#[]⟩) (.slice none 0 0)).cell? ⟨g, o, none⟩ = some (.slice A2 R.l.length c2) := keep_cell (hg4.block g dz (fun e => hgg (Option.some.inj e))) _ d0
      have kf : ∀ j, (set4 w' g' (R.l.length * 4) (.int .i64 0) (.string (bs R.p)) (.string ⟨#[]⟩) (.slice none 0 0)).frozen? ⟨g, j, none⟩ = false := keep_frz (hg4.block g dz (fun e => hgg (Option.some.inj e))) df
      have hS4 : (fun u : World => u.cell? ⟨g, o + 1, none⟩ = some (.slice A R.p.length c) ∧ u.ownsRow B 5 1 (.slice A R.p.length c) R.p.length (bcells R.p)) ((set4 w' g' (R.l.length * 4) (.int .i64 0) (.string (bs R.p)) (.string ⟨#[]⟩) (.slice none 0 0)).setCell ⟨g, o, none⟩ (.slice (some ⟨g', 0, none⟩) (R.l.length + 1) c')) := ⟨(World.cell?_setCell_other _ ⟨g, o, none⟩ ⟨g, o + 1, none⟩ _ (by intro h; injection h with _ h2 _; omega)).trans hS3.1, World.ownsRow.kept hS3.2 (grown_set _ ⟨g, o, none⟩ _) hpo⟩
      refine wpT_store rfl rfl (exec_store1 rfl (by kernel_rfl) rfl rfl k0 kf) hS4 ?_
      clear hS3 hS4 k0 kf
      generalize World.setCell _ _ _ = W at t ⊢
      have hI2 := ICs_snoc (t := Il.word R.p) (cs := [Value.int .i64 0, .string (bs R.p), .string ⟨#[]⟩, .slice none 0 0]) (t.kids hI) (IC_leaf 0 R.p [])
      have hB2 := Nat.le_trans hB t.bel.size
      obtain ⟨f0, f1, ffz, _, fgz, _, _, _, _⟩ := rowm_all hk hC t.hp
      have t3 := Lib.hid (t.trans (rowm_none hk hC t.hp hB2))
      have hI3 := Lib.hid ((rowm_none hk hC t.hp hB2).kids hI2)
      rw [← hfull.out] at t3 hI3
      clear t hI2 e0 e1 e2 e3 d0 d1 df ff ho hg hb hat hgw op2 hS2 ho4 hg4 hleaf hlen hS hS1 hcv c0 c1 cf oi op h hI hpg hpo nei nep nip hat2 hnew
      refine wpT_fin ?_
      go_wp2_with fail
      go_ret
      exact ⟨_, rfl, _, _, t3.out, hI3.out⟩
    case' wf =>
      have hS3 : (fun u : World => u.cell? ⟨g, o + 1, none⟩ = some (.slice A R.p.length c) ∧ u.ownsRow B 5 1 (.slice A R.p.length c) R.p.length (bcells R.p)) (w'.setCell ⟨g, o, none⟩ (.slice (some ⟨g', 0, none⟩) (R.l.length + 1) c')) := ⟨(World.cell?_setCell_other _ ⟨g, o, none⟩ ⟨g, o + 1, none⟩ _ (by intro h; injection h with _ h2 _; omega)).trans d1, World.ownsRow.kept op2 (grown_set _ ⟨g, o, none⟩ _) hpo⟩
      refine wpT_store rfl rfl (exec_store1 rfl (by kernel_rfl) rfl rfl d0 df) hS3 ?_
      have tz := rowm_inl hk hC h hB (R' := ⟨R.l ++ [Il.word R.p], R.p⟩) (css' := css ++ [[Value.int .i64 0, .string ⟨#[]⟩, .string ⟨#[]⟩, .slice none 0 0]]) rfl hgw (by rw [hlen]; simpa using ho) hat2
      have gk : w'.grownBy (w'.setCell ⟨g, o, none⟩ (.slice (some ⟨g', 0, none⟩) (R.l.length + 1) c')) (some g) := grown_set _ ⟨g, o, none⟩ _
      have hoz : (w'.setCell ⟨g, o, none⟩ (.slice (some ⟨g', 0, none⟩) (R.l.length + 1) c')).ownsRow B 41 4 (.slice (some ⟨g', 0, none⟩) (R.l.length + 1) c') (R.l.length + 1) (css.flatten ++ [.int .i64 0, .string ⟨#[]⟩, .string ⟨#[]⟩, .slice none 0 0]) := World.ownsRow.kept ho gk (.inr (fun e => hgg (Option.some.inj e).symm))
      have fz := fun j => World.ownsRow.frozenAt hoz j
      have z0 : (w'.setCell ⟨g, o, none⟩ (.slice (some ⟨g', 0, none⟩) (R.l.length + 1) c')).cell? ⟨g', R.l.length * 4, none⟩ = some (.int .i64 0) := il_own_cell hoz (by rw [List.getElem?_append_right (by omega), hcl, show R.l.length * 4 - R.l.length * 4 = 0 by omega]; rfl)
      have z1 : (w'.setCell ⟨g, o, none⟩ (.slice (some ⟨g', 0, none⟩) (R.l.length + 1) c')).cell? ⟨g', R.l.length * 4 + 1, none⟩ = some (.string ⟨#[]⟩) := il_own_cell hoz (by rw [List.getElem?_append_right (by omega), hcl, show R.l.length * 4 + 1 - R.l.length * 4 = 1 by omega]; rfl)
      have z2 : (w'.setCell ⟨g, o, none⟩ (.slice (some ⟨g', 0, none⟩) (R.l.length + 1) c')).cell? ⟨g', R.l.length * 4 + 2, none⟩ = some (.string ⟨#[]⟩) := il_own_cell hoz (by rw [List.getElem?_append_right (by omega), hcl, show R.l.length * 4 + 2 - R.l.length * 4 = 2 by omega]; rfl)
      have z3 : (w'.setCell ⟨g, o, none⟩ (.slice (some ⟨g', 0, none⟩) (R.l.length + 1) c')).cell? ⟨g', R.l.length * 4 + 3, none⟩ = some (.slice none 0 0) := il_own_cell hoz (by rw [List.getElem?_append_right (by omega), hcl, show R.l.length * 4 + 3 - R.l.length * 4 = 3 by omega]; rfl)
      have hg5 := set4_grown (w'.setCell ⟨g, o, none⟩ (.slice (some ⟨g', 0, none⟩) (R.l.length + 1) c')) g' (R.l.length * 4) (.int .i64 0) (.string (bs R.p)) (.string ⟨#[]⟩) (.slice none 0 0)
      have hS4 : (fun u : World => u.cell? ⟨g, o + 1, none⟩ = some (.slice A R.p.length c) ∧ u.ownsRow B 5 1 (.slice A R.p.length c) R.p.length (bcells R.p)) (set4 (w'.setCell ⟨g, o, none⟩ (.slice (some ⟨g', 0, none⟩) (R.l.length + 1) c')) g' (R.l.length * 4) (.int .i64 0) (.string (bs R.p)) (.string ⟨#[]⟩) (.slice none 0 0)) := ⟨keep_cell (hg5.block g (Nat.lt_of_lt_of_le dz gk.size) (fun e => hgg (Option.some.inj e))) _ hS3.1, World.ownsRow.kept hS3.2 hg5 hpg⟩
      have t := tz.trans (rowm_inl2 hk (R' := ⟨R.l ++ [Il.word R.p], R.p⟩) (css' := css ++ [[Value.int .i64 0, .string (bs R.p), .string ⟨#[]⟩, .slice none 0 0]]) rfl (Nat.le_trans hB tz.bel.size) tz.hp hg5 (by rw [hlen, hleaf]; exact set4_own hoz hcl (.int .i64 0) (.string (bs R.p)) (.string ⟨#[]⟩) (.slice none 0 0)) rfl rfl)
      refine wpT_store rfl rfl (exec_store4 rfl (by kernel_rfl) rfl rfl z0 z1 z2 z3 fz) hS4 ?_
      clear hS4 z0 z1 z2 z3 fz
      generalize set4 _ _ _ _ _ _ _ = W at t ⊢
      clear hS3 tz gk hoz hg5
      have hI2 := ICs_snoc (t := Il.word R.p) (cs := [Value.int .i64 0, .string (bs R.p), .string ⟨#[]⟩, .slice none 0 0]) (t.kids hI) (IC_leaf 0 R.p [])
      have hB2 := Nat.le_trans hB t.bel.size
      obtain ⟨f0, f1, ffz, _, fgz, _, _, _, _⟩ := rowm_all hk hC t.hp
      have t3 := Lib.hid (t.trans (rowm_none hk hC t.hp hB2))
      have hI3 := Lib.hid ((rowm_none hk hC t.hp hB2).kids hI2)
      rw [← hfull.out] at t3 hI3
      clear t hI2 e0 e1 e2 e3 d0 d1 df ff ho hg hb hat hgw op2 hS2 ho4 hg4 hleaf hlen hS hS1 hcv c0 c1 cf oi op h hI hpg hpo nei nep nip hat2 hnew
      refine wpT_fin ?_
      go_wp2_with fail
      go_ret
      exact ⟨_, rfl, _, _, t3.out, hI3.out⟩
set_option maxHeartbeats 8000000 in
set_option maxRecDepth 100000 in
theorem pall_empty (hk : k.ok) (hC : Cn g o C) (h : Hq w B (rowm m k C R vi vp css)) (hI : ICs w (Fr w B (rowm m k C R vi vp css)) R.l css) (hp : R.p = []) :
    Calls Tryz.prog 43 #[.pointer (some ⟨g, o, none⟩)] w fun e w' => ∃ vi', e = .returned vi' ∧ ∃ vp' css', Turn B (rowm m k C R vi vp css) w (rowm m k C ⟨R.full, []⟩ vi' vp' css') w' ∧ ICs w' (Fr w' B (rowm m k C ⟨R.full, []⟩ vi' vp' css')) R.full css' := by
  obtain ⟨c0, c1, cf, hBg, hgz, oi, op, nei, nep⟩ := rowm_all hk hC h
  obtain ⟨L, P⟩ := R
  simp only at hp
  subst hp
  have hfull : (⟨L, []⟩ : Il.Rw).full = L := by unfold Il.Rw.full; simp
  obtain ⟨A, c, rfl, hc3⟩ := own_shape op
  obtain ⟨A2, c2, rfl, hc4⟩ := own_shape oi
  simp only [List.length_nil] at c1
  have hfin := Lib.hid (show Turn B (rowm m k C ⟨L, []⟩ (.slice A2 L.length c2) (.slice A 0 c) css) w (rowm m k C ⟨(⟨L, []⟩ : Il.Rw).full, []⟩ (.slice A2 L.length c2) (.slice A 0 c) css) w ∧ ICs w (Fr w B (rowm m k C ⟨(⟨L, []⟩ : Il.Rw).full, []⟩ (.slice A2 L.length c2) (.slice A 0 c) css)) (⟨L, []⟩ : Il.Rw).full css by
    rw [hfull]; exact ⟨h.refl, hI⟩)
  simp only [List.length_nil] at h hI ⊢
  clear h hI oi op hfull
  go_enter Tryz.func43, Tryz.ntmps43
  go_wp2_with fail
  go_ret
  exact ⟨_, rfl, _, _, hfin.out.1, hfin.out.2⟩
/-- a row's inlines: its plain end is one of them then -/
theorem pall_any (hk : k.ok) (hC : Cn g o C) (h : Hq w B (rowm m k C R vi vp css)) (hI : ICs w (Fr w B (rowm m k C R vi vp css)) R.l css) (hB : B ≤ w.heap.size) (hl : R.p.length ≤ 100000000000) (hll : R.l.length ≤ 100000000000) :
    Calls Tryz.prog 43 #[.pointer (some ⟨g, o, none⟩)] w fun e w' => ∃ vi', e = .returned vi' ∧ ∃ vp' css', Turn B (rowm m k C R vi vp css) w (rowm m k C ⟨R.full, []⟩ vi' vp' css') w' ∧ ICs w' (Fr w' B (rowm m k C ⟨R.full, []⟩ vi' vp' css')) R.full css' := by
  by_cases hp : R.p = []
  · exact pall_empty hk hC h hI hp
  · exact pall_some hk hC h hI hB hp hl hll
end
end Go.Proofs.YtkfhkfagmokjpaaGreatDoor

namespace Go.Proofs.YtkfhkfagmokjpaaGreatDoor
open Go.RowKit

abbrev V3 := Value × Value × List (List Value)
def v3cells (V : List V3) : List Value := V.flatMap fun x => [x.1, x.2.1]
theorem v3cells_len (V : List V3) : (v3cells V).length = V.length * 2 := by
  induction V with
  | nil => rfl
  | cons x V ih =>
    have : v3cells (x :: V) = x.1 :: x.2.1 :: v3cells V := rfl
    rw [this]; simp only [List.length_cons, ih]; omega
theorem v3cells_append (a b : List V3) : v3cells (a ++ b) = v3cells a ++ v3cells b := by simp [v3cells]
theorem v3cells_set {V : List V3} {i : Nat} (h : i < V.length) (x : V3) : v3cells (V.set i x) = v3cells (V.take i) ++ x.1 :: x.2.1 :: v3cells (V.drop (i + 1)) := by
  rw [List.set_eq_take_append_cons_drop, if_pos h, v3cells_append]; rfl
def atR (rs : List Il.Rw) (V : List V3) (f : Il.Rw → V3 → Pa) (j : Nat) : Option Pa :=
  match rs[j]?, V[j]? with
  | some R, some x => some (f R x)
  | _, _ => none
/-- rows of rows as parts -/
def rowsF (m : Ky → Option Pa) (a b c : Nat) (v : Value) (rs : List Il.Rw) (V : List V3) : Ky → Option Pa := fun j =>
  if j = (a, 0) then some (.row 54 2 v rs.length (v3cells V))
  else if j.1 = b then atR rs V (fun R x => rinl R x.1 x.2.2) j.2
  else if j.1 = c then atR rs V (fun R x => rpln R x.2.1) j.2
  else m j
structure Abc (a b c : Nat) : Prop where
  ab : b ≠ a
  ac : c ≠ a
  bc : c ≠ b
def ksAt (a b c i : Nat) : Ks := ⟨(a, 0), (b, i), (c, i)⟩
theorem ksAt_ok {a b c : Nat} (h : Abc a b c) (i : Nat) : (ksAt a b c i).ok :=
  ⟨fun e => h.ab (congrArg Prod.fst e), fun e => h.ac (congrArg Prod.fst e), fun e => h.bc (congrArg Prod.fst e)⟩
def cAt (v : Value) (n : Nat) (V : List V3) (i : Nat) : Value → Value → Pa := fun x y => .row 54 2 v n (v3cells (V.take i) ++ x :: y :: v3cells (V.drop (i + 1)))
section
variable {m : Ky → Option Pa} {a b c : Nat} {v : Value} {rs : List Il.Rw} {V : List V3} {w w' : World} {B : Nat}
theorem rowsF_set (h : Abc a b c) {i : Nat} (hi : i < rs.length) (hV : i < V.length) (R' : Il.Rw) (x y : Value) (z : List (List Value)) :
    rowm (rowsF m a b c v rs V) (ksAt a b c i) (cAt v rs.length V i) R' x y z = rowsF m a b c v (rs.set i R') (V.set i (x, y, z)) := by
  funext j
  obtain ⟨j1, j2⟩ := j
  unfold rowm uq ksAt cAt rowsF
  simp only [Prod.mk.injEq, List.length_set, v3cells_set hV]
  have hab := h.ab
  have hac := h.ac
  have hbc := h.bc
  have set1 : ∀ f, atR (rs.set i R') (V.set i (x, y, z)) f i = some (f R' (x, y, z)) := fun f => by
    unfold atR; rw [List.getElem?_set_self hi, List.getElem?_set_self hV]
  have set2 : ∀ f j, j ≠ i → atR (rs.set i R') (V.set i (x, y, z)) f j = atR rs V f j := fun f j hj => by
    unfold atR; rw [List.getElem?_set_ne (Ne.symm hj), List.getElem?_set_ne (Ne.symm hj)]
  by_cases hc : j1 = c
  · subst hc
    by_cases hj : j2 = i
    · subst hj
      simp [hac, hbc, set1]
    · simp [hac, hbc, hj, set2]
  · by_cases hb : j1 = b
    · subst hb
      by_cases hj : j2 = i
      · subst hj
        simp [hab, hc, set1]
      · simp [hab, hc, hj, set2]
    · by_cases ha : j1 = a ∧ j2 = 0
      · obtain ⟨rfl, rfl⟩ := ha
        simp [hc, hb]
      · simp [hc, hb, ha]
theorem rowsF_self (h : Abc a b c) {i : Nat} (hi : i < rs.length) (hV : i < V.length) : rowm (rowsF m a b c v rs V) (ksAt a b c i) (cAt v rs.length V i) rs[i] V[i].1 V[i].2.1 V[i].2.2 = rowsF m a b c v rs V := by
  rw [rowsF_set h hi hV, List.set_getElem_self]
  have : V.set i (V[i].1, V[i].2.1, V[i].2.2) = V := List.set_getElem_self hV
  rw [this]
/-- all rows lie -/
structure RS (w : World) (B : Nat) (m : Ky → Option Pa) (a b c : Nat) (v : Value) (rs : List Il.Rw) (V : List V3) : Prop where
  hp : Hq w B (rowsF m a b c v rs V)
  len : V.length = rs.length
  kids : ∀ (i : Nat) (h : i < rs.length) (h' : i < V.length), ICs w (Fr w B (rowsF m a b c v rs V)) rs[i].l V[i].2.2
theorem RS.cn (h : RS w B m a b c v rs V) {g cp : Nat} (hv : v = .slice (some ⟨g, 0, none⟩) rs.length cp) {i : Nat} (hi : i < rs.length) : Cn g (i * 2) (cAt v rs.length V i) := by
  subst hv
  exact cn_row 54 g rs.length cp (v3cells (V.take i)) (v3cells (V.drop (i + 1))) (by rw [v3cells_len, List.length_take, h.len]; omega)
theorem RS.look (h : RS w B m a b c v rs V) (hA : Abc a b c) {i : Nat} {R : Il.Rw} (hR : rs[i]? = some R) : ∃ (x y : Value) (z : List (List Value)), rowm (rowsF m a b c v rs V) (ksAt a b c i) (cAt v rs.length V i) R x y z = rowsF m a b c v rs V ∧ Hq w B (rowm (rowsF m a b c v rs V) (ksAt a b c i) (cAt v rs.length V i) R x y z) ∧ ICs w (Fr w B (rowm (rowsF m a b c v rs V) (ksAt a b c i) (cAt v rs.length V i) R x y z)) R.l z := by
  obtain ⟨hi, rfl⟩ := List.getElem?_eq_some_iff.1 hR
  have hV : i < V.length := by rw [h.len]; exact hi
  have e := rowsF_self (m := m) (v := v) hA hi hV
  refine ⟨V[i].1, V[i].2.1, V[i].2.2, e, ?_, ?_⟩
  · rw [e]; exact h.hp
  · rw [e]; exact h.kids i hi hV
/-- one of them has turned -/
theorem RS.turned (h : RS w B m a b c v rs V) (hA : Abc a b c) {i : Nat} {R : Il.Rw} (hR : rs[i]? = some R) {R' : Il.Rw} {x y x0 y0 : Value} {z z0 : List (List Value)} (he : rowm (rowsF m a b c v rs V) (ksAt a b c i) (cAt v rs.length V i) R x0 y0 z0 = rowsF m a b c v rs V)
    (t : Turn B (rowm (rowsF m a b c v rs V) (ksAt a b c i) (cAt v rs.length V i) R x0 y0 z0) w (rowm (rowsF m a b c v rs V) (ksAt a b c i) (cAt v rs.length V i) R' x y z) w')
    (hI : ICs w' (Fr w' B (rowm (rowsF m a b c v rs V) (ksAt a b c i) (cAt v rs.length V i) R' x y z)) R'.l z) : RS w' B m a b c v (rs.set i R') (V.set i (x, y, z)) ∧ Turn B (rowsF m a b c v rs V) w (rowsF m a b c v (rs.set i R') (V.set i (x, y, z))) w' := by
  obtain ⟨hi, rfl⟩ := List.getElem?_eq_some_iff.1 hR
  have hV : i < V.length := by rw [h.len]; exact hi
  rw [he, rowsF_set hA hi hV] at t
  rw [rowsF_set hA hi hV] at hI
  refine ⟨⟨t.hp, by rw [List.length_set, List.length_set, h.len], fun j hj hj' => ?_⟩, t⟩
  by_cases hij : i = j
  · subst hij
    rw [List.getElem_set_self, List.getElem_set_self]; exact hI
  · rw [List.getElem_set_ne hij, List.getElem_set_ne hij]
    exact t.kids (h.kids j (by rw [List.length_set] at hj; exact hj) (by rw [List.length_set] at hj'; exact hj'))
theorem RS.ext (h : RS w B m a b c v rs V) (hB : B ≤ w.heap.size) (hb : Below w.heap.size w w') : RS w' B m a b c v rs V :=
  ⟨(h.hp.call hB hb).hp, h.len, fun i h1 h2 => (h.hp.call hB hb).kids (h.kids i h1 h2)⟩
/-- a turn of memory that leaves the rows as they are -/
theorem RS.along (h : RS w B m a b c v rs V) {m' : Ky → Option Pa} (t : Turn B (rowsF m a b c v rs V) w (rowsF m' a b c v rs V) w') : RS w' B m' a b c v rs V :=
  ⟨t.hp, h.len, fun i h1 h2 => t.kids (h.kids i h1 h2)⟩
theorem rowsF_arr (m : Ky → Option Pa) (a b c : Nat) (v : Value) (rs : List Il.Rw) (V : List V3) : rowsF m a b c v rs V (a, 0) = some (.row 54 2 v rs.length (v3cells V)) := by unfold rowsF; rw [if_pos rfl]
theorem RS.arr (h : RS w B m a b c v rs V) : w.ownsRow B 54 2 v rs.length (v3cells V) := h.hp.holds _ _ (rowsF_arr m a b c v rs V)
theorem RS.slice (h : RS w B m a b c v rs V) (hn : 0 < rs.length) : ∃ g cp, v = .slice (some ⟨g, 0, none⟩) rs.length cp ∧ rs.length ≤ cp ∧ B ≤ g ∧ g < w.heap.size := hq_some h.arr hn
/-- the array of rows in another block, with the same rows and some that are empty -/
theorem RS.grow (h : RS w B m a b c v rs V) (hB : B ≤ w.heap.size) {v' : Value} {j : Nat} (hg : w.grownBy w' v.ownBlock) (ho : w'.ownsRow B 54 2 v' (rs.length + j) (v3cells V ++ v3cells (List.replicate j (.slice none 0 0, .slice none 0 0, [])))) (hat : At w.heap.size v v') :
    RS w' B m a b c v' (rs ++ List.replicate j Il.Rw.nil) (V ++ List.replicate j (.slice none 0 0, .slice none 0 0, [])) ∧ Turn B (rowsF m a b c v rs V) w (rowsF m a b c v' (rs ++ List.replicate j Il.Rw.nil) (V ++ List.replicate j (.slice none 0 0, .slice none 0 0, []))) w' := by
  have t1 := h.hp.tput (k := (a, 0)) (.row 54 2 v' (rs ++ List.replicate j Il.Rw.nil).length (v3cells (V ++ List.replicate j (.slice none 0 0, .slice none 0 0, [])))) (rowsF_arr m a b c v rs V) hg (by
    show World.ownsRow _ _ _ _ _ _ _
    rw [List.length_append, List.length_replicate, v3cells_append]; exact ho) hat hB
  have old : ∀ (f : Il.Rw → V3 → Pa) (i : Nat) (x : Pa), (∀ R, R = Il.Rw.nil → (f R (.slice none 0 0, .slice none 0 0, [])).block = none ∧ (f R (.slice none 0 0, .slice none 0 0, [])).holds w' B) → atR (rs ++ List.replicate j Il.Rw.nil) (V ++ List.replicate j (.slice none 0 0, .slice none 0 0, [])) f i = some x → atR rs V f i = some x ∨ (x.block = none ∧ x.holds w' B) := by
    intro f i x hf he
    unfold atR at he ⊢
    rcases Nat.lt_or_ge i rs.length with hi | hi
    · rw [List.getElem?_append_left hi, List.getElem?_append_left (by rw [h.len]; exact hi)] at he
      exact .inl he
    · rw [List.getElem?_append_right hi, List.getElem?_append_right (by rw [h.len]; exact hi), h.len] at he
      rw [List.getElem?_replicate, List.getElem?_replicate] at he
      by_cases hj : i - rs.length < j
      · rw [if_pos hj, if_pos hj] at he
        injection he with he
        subst he
        exact .inr (hf _ rfl)
      · rw [if_neg hj, if_neg hj] at he; cases he
  have t2 : Turn B (uq (rowsF m a b c v rs V) (a, 0) (.row 54 2 v' (rs ++ List.replicate j Il.Rw.nil).length (v3cells (V ++ List.replicate j (.slice none 0 0, .slice none 0 0, []))))) w' (rowsF m a b c v' (rs ++ List.replicate j Il.Rw.nil) (V ++ List.replicate j (.slice none 0 0, .slice none 0 0, []))) w' := by
    refine t1.hp.tsub id (fun q x hx => ?_) (fun q q' x x' _ _ _ e => e)
    obtain ⟨q1, q2⟩ := q
    unfold rowsF at hx
    by_cases ha : (q1, q2) = (a, 0)
    · rw [if_pos ha] at hx
      rw [id, ha, uq_same]; exact .inl hx
    · rw [if_neg ha] at hx
      rw [id, uq_other _ _ ha]
      unfold rowsF
      rw [if_neg ha]
      simp only at hx ⊢
      by_cases hb : q1 = b
      · rw [if_pos hb] at hx ⊢
        exact old _ _ _ (fun R hR => by subst hR; exact ⟨rfl, World.ownsRow_nil _ _ _ _⟩) hx
      · rw [if_neg hb] at hx ⊢
        by_cases hc : q1 = c
        · rw [if_pos hc] at hx ⊢
          exact old _ _ _ (fun R hR => by subst hR; exact ⟨rfl, World.ownsRow_nil _ _ _ _⟩) hx
        · rw [if_neg hc] at hx ⊢
          exact .inl hx
  have t := t1.trans t2
  refine ⟨⟨t.hp, by simp [h.len], fun i hi hi' => ?_⟩, t⟩
  rcases Nat.lt_or_ge i rs.length with hl | hl
  · rw [List.getElem_append_left hl, List.getElem_append_left (by rw [h.len]; exact hl)]
    exact t.kids (h.kids i hl _)
  · rw [List.getElem_append_right hl, List.getElem_append_right (by rw [h.len]; exact hl), List.getElem_replicate, List.getElem_replicate]
    exact ICs_nil
/-- the last row is taken off: its inlines are no part any more -/
theorem RS.pop (h : RS w B m a b c v rs V) (hA : Abc a b c) (hB : B ≤ w.heap.size) {n g cp : Nat} (hn : rs.length = n + 1) (hv : v = .slice (some ⟨g, 0, none⟩) (n + 1) cp) :
    RS w B m a b c (.slice (some ⟨g, 0, none⟩) n cp) (rs.take n) (V.take n) ∧ Turn B (rowsF m a b c v rs V) w (rowsF m a b c (.slice (some ⟨g, 0, none⟩) n cp) (rs.take n) (V.take n)) w ∧
      ∀ (hi : n < rs.length) (hi' : n < V.length) (A : Option Addr) (cA : Nat), V[n].1 = .slice A rs[n].l.length cA → RowI w (Fr w B (rowsF m a b c (.slice (some ⟨g, 0, none⟩) n cp) (rs.take n) (V.take n))) 4 A rs[n].l.length V[n].2.2.flatten ∧ ICs w (Fr w B (rowsF m a b c (.slice (some ⟨g, 0, none⟩) n cp) (rs.take n) (V.take n))) rs[n].l V[n].2.2 := by
  subst hv
  have harr := h.arr
  have hVl := h.len
  have htl : (rs.take n).length = n := by rw [List.length_take]; omega
  have ho : w.ownsRow B 54 2 (.slice (some ⟨g, 0, none⟩) n cp) (rs.take n).length (v3cells (V.take n)) := by
    rw [htl]
    refine ⟨by rw [v3cells_len, List.length_take]; omega, ?_⟩
    rcases harr.2 with ⟨e, _⟩ | ⟨g', cap, cur, e, h1, h2, h3, h4, h5, h6⟩
    · simp at e
    · injection e with e1 e2 e3
      injection e1 with e1
      injection e1 with e1
      subst e1 e3
      refine .inr ⟨g, cp, cur, rfl, h1, h2, by omega, h4, h5, ?_⟩
      have e4 : v3cells V = v3cells (V.take n) ++ v3cells (V.drop n) := by rw [← v3cells_append, List.take_append_drop]
      have e5 : (v3cells (V.take n)).length = n * 2 := by rw [v3cells_len, List.length_take]; omega
      have : (cur.toList.take (rs.length * 2)).take (n * 2) = (v3cells V).take (n * 2) := by rw [h6]
      rw [List.take_take, show min (n * 2) (rs.length * 2) = n * 2 by omega, e4, List.take_left' e5] at this
      exact this
  have t1 := h.hp.tput (k := (a, 0)) (.row 54 2 (.slice (some ⟨g, 0, none⟩) n cp) (rs.take n).length (v3cells (V.take n))) (rowsF_arr m a b c _ rs V) (World.grownBy.refl w _) ho (fun g' hg' => .inl hg') hB
  have old : ∀ (f : Il.Rw → V3 → Pa) (i : Nat) (x : Pa), atR (rs.take n) (V.take n) f i = some x → atR rs V f i = some x ∧ i < n := by
    intro f i x he
    unfold atR at he ⊢
    rw [List.getElem?_take, List.getElem?_take] at he
    by_cases hi : i < n
    · rw [if_pos hi, if_pos hi] at he; exact ⟨he, hi⟩
    · rw [if_neg hi, if_neg hi] at he; cases he
  have hsub : ∀ q x, rowsF m a b c (.slice (some ⟨g, 0, none⟩) n cp) (rs.take n) (V.take n) q = some x → uq (rowsF m a b c (.slice (some ⟨g, 0, none⟩) (n + 1) cp) rs V) (a, 0) (.row 54 2 (.slice (some ⟨g, 0, none⟩) n cp) (rs.take n).length (v3cells (V.take n))) q = some x ∧ q ≠ (b, n) := by
    intro q x hx
    obtain ⟨q1, q2⟩ := q
    unfold rowsF at hx
    by_cases ha : (q1, q2) = (a, 0)
    · rw [if_pos ha] at hx
      refine ⟨by rw [ha, uq_same]; exact hx, fun e => ?_⟩
      rw [e] at ha
      exact hA.ab (congrArg Prod.fst ha)
    · rw [if_neg ha] at hx
      rw [uq_other _ _ ha]
      unfold rowsF
      rw [if_neg ha]
      simp only at hx ⊢
      by_cases hb : q1 = b
      · rw [if_pos hb] at hx ⊢
        obtain ⟨h1, h2⟩ := old _ _ _ hx
        exact ⟨h1, fun e => by have := congrArg Prod.snd e; simp only at this; omega⟩
      · rw [if_neg hb] at hx ⊢
        refine ⟨?_, fun e => hb (congrArg Prod.fst e)⟩
        by_cases hc : q1 = c
        · rw [if_pos hc] at hx ⊢
          exact (old _ _ _ hx).1
        · rw [if_neg hc] at hx ⊢
          exact hx
  have t2 : Turn B _ w (rowsF m a b c (.slice (some ⟨g, 0, none⟩) n cp) (rs.take n) (V.take n)) w := t1.hp.tsub id (fun q x hx => .inl (hsub q x hx).1) (fun q q' x x' _ _ _ e => e)
  have t := t1.trans t2
  refine ⟨⟨t.hp, by rw [htl, List.length_take]; omega, fun i hi hi' => ?_⟩, t, fun hi hi' A cA hVA => ⟨?_, t.kids (h.kids n hi hi')⟩⟩
  · rw [List.getElem_take, List.getElem_take]
    rw [htl] at hi
    exact t.kids (h.kids i (by omega) (by omega))
  · have hb : rowsF m a b c (.slice (some ⟨g, 0, none⟩) (n + 1) cp) rs V (b, n) = some (rinl rs[n] V[n].1 V[n].2.2) := by
      unfold rowsF
      rw [if_neg (fun e => hA.ab (congrArg Prod.fst e)), if_pos rfl]
      unfold atR
      rw [List.getElem?_eq_getElem hi, List.getElem?_eq_getElem hi']
    have hown : w.ownsRow B 41 4 V[n].1 rs[n].l.length V[n].2.2.flatten := h.hp.holds _ _ hb
    have hbl := hown
    rw [hVA] at hbl
    have hr := own_rowI hbl
    refine ⟨hr.1, fun hp => ?_⟩
    obtain ⟨b0, o, h1, h2, h3⟩ := hr.2 hp
    refine ⟨b0, o, h1, ⟨h2.1, h2.2, fun q x hx e => ?_⟩, h3⟩
    obtain ⟨h4, h5⟩ := hsub q x hx
    have hb1 : uq (rowsF m a b c (.slice (some ⟨g, 0, none⟩) (n + 1) cp) rs V) (a, 0) (.row 54 2 (.slice (some ⟨g, 0, none⟩) n cp) (rs.take n).length (v3cells (V.take n))) (b, n) = some (rinl rs[n] V[n].1 V[n].2.2) := by
      rw [uq_other _ _ (fun e => hA.ab (congrArg Prod.fst e))]; exact hb
    refine h5 (t1.hp.apart _ _ _ _ b0 h4 hb1 e ?_)
    show V[n].1.ownBlock = some b0
    rw [hVA, h1]; rfl
end
end Go.Proofs.YtkfhkfagmokjpaaGreatDoor

namespace Go.Proofs.YtkfhkfagmokjpaaGreatDoor
open Go.RowKit
attribute [local go_sem] canOp readsAs readUpon

theorem Hq.drewT {K : Type} {w : World} {B : Nat} {m : K → Option Pa} (h : Hq w B m) : Turn B m w m w.drew :=
  ⟨⟨fun k a ha => by have := h.holds k a ha; cases a <;> exact this, h.apart⟩, ⟨rfl, rfl, rfl, Nat.le_refl _, fun _ _ => rfl⟩, fun _ hb => ⟨rfl, hb⟩⟩
theorem row_blk {w : World} {g size n : Nat} {C : Array Value} {T : TypeId} (h : w.heap[g]? = some (.cells C T)) (hn : C.size = n * size) : Row w w.heap.size size (some ⟨g, 0, none⟩) n C.toList := by
  refine ⟨by simpa using hn, fun _ => ⟨g, 0, rfl, (Array.getElem?_eq_some_iff.1 h).1, fun j u hj => ?_⟩⟩
  rw [blk_cell h]
  simpa using hj
section
variable {m : Ky → Option Pa} {k : Ks} {C : Value → Value → Pa} {R : Il.Rw} {vi vp : Value} {css : List (List Value)} {w : World} {B g o : Nat}
/-- a row and one inline more -/
theorem rowm_more (hk : k.ok) (hC : Cn g o C) (h : Hq w B (rowm m k C ⟨R.full, []⟩ vi vp css)) (hI : ICs w (Fr w B (rowm m k C ⟨R.full, []⟩ vi vp css)) R.full css) (hB : B ≤ w.heap.size) {x : Il.In} {xc : List Value} (hx : IC w (Fr w B (rowm m k C ⟨R.full, []⟩ vi vp css)) x xc)
    {w' : World} {v' : Value} (ho : w'.ownsRow B 41 4 v' (R.full.length + 1) (css.flatten ++ xc)) (hg : w.grownBy w' vi.ownBlock) (hat : At w.heap.size vi v') :
    Turn B (rowm m k C ⟨R.full, []⟩ vi vp css) w (rowm m k C (R.put x) v' vp (css ++ [xc])) (w'.setCell ⟨g, o, none⟩ v') ∧ ICs (w'.setCell ⟨g, o, none⟩ v') (Fr (w'.setCell ⟨g, o, none⟩ v') B (rowm m k C (R.put x) v' vp (css ++ [xc]))) (R.put x).l (css ++ [xc]) := by
  have t := rowm_inl hk hC h hB (R' := R.put x) (css' := css ++ [xc]) rfl hg (by
    have e : (R.put x).l.length = R.full.length + 1 := by simp [Il.Rw.put]
    rw [e]; simpa using ho) hat
  exact ⟨t, ICs_snoc (t.kids hI) (t.kid hx)⟩

set_option maxHeartbeats 8000000 in
set_option maxRecDepth 100000 in
theorem pput_any (hk : k.ok) (hC : Cn g o C) (h : Hq w B (rowm m k C R vi vp css)) (hI : ICs w (Fr w B (rowm m k C R vi vp css)) R.l css) (hB : B ≤ w.heap.size) (hl : R.p.length ≤ 10000000000) (hll : R.l.length ≤ 10000000000)
    (kd : Nat) (t d : List UInt8) (ks : List Il.In) (AK : Option Addr) (cK : Nat) (hx : IC w (Fr w B (rowm m k C R vi vp css)) (.mk kd t d ks) [.int .i64 (kd : Int), .string (bs t), .string (bs d), .slice AK ks.length cK]) :
    Calls Tryz.prog 41 #[.pointer (some ⟨g, o, none⟩), .agg #[.int .i64 (kd : Int), .string (bs t), .string (bs d), .slice AK ks.length cK]] w fun e w' => e = .returned (.tuple #[]) ∧ ∃ vi' vp' css', Turn B (rowm m k C R vi vp css) w (rowm m k C (R.put (.mk kd t d ks)) vi' vp' css') w' ∧ ICs w' (Fr w' B (rowm m k C (R.put (.mk kd t d ks)) vi' vp' css')) (R.put (.mk kd t d ks)).l css' := by
  have hfl := R.wt_full.1
  have t0 := h.call (w' := w.alloc (.cells #[.int .i64 (kd : Int), .string (bs t), .string (bs d), .slice AK ks.length cK] 41)) hB (ext_alloc w _)
  have hf0 := Hq.new (w' := w.alloc (.cells #[.int .i64 (kd : Int), .string (bs t), .string (bs d), .slice AK ks.length cK] 41)) h hB (b := w.heap.size) (Nat.le_refl _) (by simp)
  have hb0 : (w.alloc (.cells #[.int .i64 (kd : Int), .string (bs t), .string (bs d), .slice AK ks.length cK] 41)).heap[w.heap.size]? = some (.cells #[.int .i64 (kd : Int), .string (bs t), .string (bs d), .slice AK ks.length cK] 41) := heap_alloc_new w _
  have td := t0.trans t0.hp.drewT
  have hID := td.kids hI
  have hxD := td.kid hx
  obtain ⟨wd, hwd⟩ : ∃ wd, wd = (w.alloc (.cells #[.int .i64 (kd : Int), .string (bs t), .string (bs d), .slice AK ks.length cK] 41)).drew := ⟨_, rfl⟩
  have hSd : (fun u : World => u.heap[w.heap.size]? = some (.cells #[.int .i64 (kd : Int), .string (bs t), .string (bs d), .slice AK ks.length cK] 41)) wd := by rw [hwd]; exact hb0
  have hfd : Fr wd B (rowm m k C R vi vp css) w.heap.size := by rw [hwd]; exact hf0
  have hBd : B ≤ wd.heap.size := by rw [hwd]; simp; omega
  rw [← hwd] at td hID hxD
  clear t0 hf0 hb0 h hI hx
  go_enter Tryz.func41, Tryz.ntmps41
  go_upto_region 1 with fail
  refine wp_region_tree (.rd 0 (.rd 1 (.rd 3 (.fk 2 (.mk 4 (.mk 5 (.rd 6 (.rd 7 (.mk 8 .fin))))) 4 (.mk 2 (.mk 5 (.rd 6 (.rd 7 (.mk 8 .fin))))))))) (fun u : World => u.heap[w.heap.size]? = some (.cells #[.int .i64 (kd : Int), .string (bs t), .string (bs d), .slice AK ks.length cK] 41)) (hwd ▸ hSd) (by kernel_rfl) (by kernel_rfl) (by kernel_rfl) (fun _ _ d _ _ h => by cases d <;> exact h) ?_
  rw [← hwd]
  clear hwd
  (first | refine wpT_move rfl ?_ | (refine wpT_rd rfl ?_; intro K hK; go_simp; refine hK _ _ _ ?_; clear hK K))
  (first | refine wpT_move rfl ?_ | (refine wpT_rd rfl ?_; intro K hK; go_simp; refine hK _ _ _ ?_; clear hK K))
  refine wpT_read (.agg #[.int .i64 (kd : Int), .string (bs t), .string (bs d), .slice AK ks.length cK]) rfl rfl hSd (fun u hu => by
    have h0 := blk_cell (j := 0) hu
    have h1 := blk_cell (j := 1) hu
    have h2 := blk_cell (j := 2) hu
    have h3 := blk_cell (j := 3) hu
    go_simp) ?_
  refine wpT_fk ?wa ?wb
  case' wa =>
    refine wpT_mk rfl ?_
    intro K hK
    go_simp
    refine (pall_any hk hC td.hp hID hBd (by omega) (by omega)).mono ?_
    rintro e w1 ⟨vi1, rfl, vp1, css1, t1, hI1⟩
    have hx1 := t1.kid hxD
    obtain ⟨hblk0, hfr1⟩ := t1.fre _ hfd
    have hS1 : (fun u : World => u.heap[w.heap.size]? = some (.cells #[.int .i64 (kd : Int), .string (bs t), .string (bs d), .slice AK ks.length cK] 41)) w1 := hblk0.trans hSd
    refine ⟨_, hS1, fun _ h => h, hK _ _ _ ?_⟩
    clear hK K
    refine wpT_mk rfl ?_
    intro K hK
    go_simp
    have hBw1 := Nat.le_trans hBd t1.bel.size
    have ta := t1.hp.call (w' := w1.alloc (.cells #[.int .i64 (kd : Int), .string (bs t), .string (bs d), .slice AK ks.length cK] 41)) hBw1 (ext_alloc w1 _)
    have hblk1 : (w1.alloc (.cells #[.int .i64 (kd : Int), .string (bs t), .string (bs d), .slice AK ks.length cK] 41)).heap[w1.heap.size]? = some (.cells #[.int .i64 (kd : Int), .string (bs t), .string (bs d), .slice AK ks.length cK] 41) := heap_alloc_new w1 _
    obtain ⟨hblk2, hfr2⟩ := ta.fre _ hfr1
    replace hS1 : (fun u : World => u.heap[w.heap.size]? = some (.cells #[.int .i64 (kd : Int), .string (bs t), .string (bs d), .slice AK ks.length cK] 41)) (w1.alloc (.cells #[.int .i64 (kd : Int), .string (bs t), .string (bs d), .slice AK ks.length cK] 41)) := hblk2.trans hS1
    replace hI1 := ta.kids hI1
    replace hx1 := ta.kid hx1
    replace t1 := t1.trans ta
    replace hfr1 := hfr2
    refine ⟨_, hS1, fun _ h => h, hK _ _ _ ?_⟩
    clear hK K ta hblk2 hblk0
    obtain ⟨bx, hbx⟩ : ∃ bx, bx = w1.heap.size := ⟨_, rfl⟩
    rw [← hbx] at hblk1 ⊢
    clear hbx
    generalize w1.alloc (.cells #[.int .i64 (kd : Int), .string (bs t), .string (bs d), .slice AK ks.length cK] 41) = w2 at *
    obtain ⟨c0, c1, cf, hBg, hgz, oi, op, nei, nep⟩ := rowm_all hk hC t1.hp
    have hBs := Nat.le_trans hBd t1.bel.size
    have oi : w2.ownsRow B 41 4 vi1 R.full.length css1.flatten := oi
    obtain ⟨A2, c2, rfl, hc4⟩ := own_shape oi
    refine wpT_app rfl rfl (.tmp 6) (.tmp 8) rfl inlEI (v := .slice A2 R.full.length c2) rfl oi rfl (row_blk hblk1 (n := 1) rfl) (by intro u hu; simp at hu; rcases hu with rfl | rfl | rfl | rfl <;> rfl) (by omega) (by omega) hBs ?_
    intro v' w' ho hg hb hat
    obtain ⟨g', c', rfl, hc', hBg', hgz'⟩ := hq_some ho (by omega)
    obtain ⟨d0, d1, df, dz⟩ := rowm_stay hk hC t1.hp hg.out nei
    have hne0 : (Value.slice A2 R.full.length c2).ownBlock ≠ some w.heap.size := hfr1.2.2 _ _ (rowm_i hk)
    have hS3 : (fun u : World => u.heap[w.heap.size]? = some (.cells #[.int .i64 (kd : Int), .string (bs t), .string (bs d), .slice AK ks.length cK] 41)) w' := (hg.out.block _ hfr1.2.1 (fun e => hne0 e.symm)).trans hS1
    refine ⟨_, hS3, fun _ h => h, ?_⟩
    obtain ⟨t3, hI3⟩ := rowm_more hk hC t1.hp hI1 hBs hx1 ho hg.out hat.out
    have t4 := Lib.hid (td.trans (t1.trans t3))
    have hI4 := Lib.hid hI3
    have hgn : g ≠ w.heap.size := fun e => hfr1.2.2 _ _ (rowm_g hk) (by rw [hC.block, e])
    have hS4 : (fun u : World => u.heap[w.heap.size]? = some (.cells #[.int .i64 (kd : Int), .string (bs t), .string (bs d), .slice AK ks.length cK] 41)) (w'.setCell ⟨g, o, none⟩ (.slice (some ⟨g', 0, none⟩) (R.full.length + 1) c')) := (Below.heap_setCell _ _ _ _ (fun e => hgn e.symm)).trans hS3
    clear t3 hI3 ho hg hb hat d1 t1 hI1 hx1 oi op nei nep c0 c1 cf
    (first | refine wpT_move rfl ?_ | (refine wpT_rd rfl ?_; intro K hK; go_simp; refine hK _ _ _ ?_; clear hK K))
    (first | refine wpT_move rfl ?_ | (refine wpT_rd rfl ?_; intro K hK; go_simp; refine hK _ _ _ ?_; clear hK K))
    refine wpT_mk rfl ?_
    intro K hK
    go_simp
    refine ⟨_, hS4, fun _ h => h, hK _ _ _ ?_⟩
    clear hK K
    refine wpT_fin ?_
    go_wp2_with fail
    go_returns
    exact ⟨rfl, _, _, _, t4.out, hI4.out⟩
  case' wb =>
    refine wpT_mk rfl ?_
    intro K hK
    go_simp
    have ta := td.hp.call (w' := wd.alloc (.cells #[.int .i64 (kd : Int), .string (bs t), .string (bs d), .slice AK ks.length cK] 41)) hBd (ext_alloc wd _)
    have hblk1 : (wd.alloc (.cells #[.int .i64 (kd : Int), .string (bs t), .string (bs d), .slice AK ks.length cK] 41)).heap[wd.heap.size]? = some (.cells #[.int .i64 (kd : Int), .string (bs t), .string (bs d), .slice AK ks.length cK] 41) := heap_alloc_new wd _
    have hfrb := Hq.new (w' := wd.alloc (.cells #[.int .i64 (kd : Int), .string (bs t), .string (bs d), .slice AK ks.length cK] 41)) td.hp hBd (b := wd.heap.size) (Nat.le_refl _) (by simp)
    obtain ⟨hblk2, hfr2⟩ := ta.fre _ hfd
    have hS1 : (fun u : World => u.heap[w.heap.size]? = some (.cells #[.int .i64 (kd : Int), .string (bs t), .string (bs d), .slice AK ks.length cK] 41)) (wd.alloc (.cells #[.int .i64 (kd : Int), .string (bs t), .string (bs d), .slice AK ks.length cK] 41)) := hblk2.trans hSd
    have hI0 := ta.kids hID
    have hx0 := ta.kid hxD
    refine ⟨_, hS1, fun _ h => h, hK _ _ _ ?_⟩
    clear hK K hblk2
    have hBb : B ≤ (wd.alloc (.cells #[.int .i64 (kd : Int), .string (bs t), .string (bs d), .slice AK ks.length cK] 41)).heap.size := by simp; omega
    obtain ⟨bx, hbx⟩ : ∃ bx, bx = wd.heap.size := ⟨_, rfl⟩
    rw [← hbx] at hblk1 hfrb ⊢
    clear hbx
    generalize wd.alloc (.cells #[.int .i64 (kd : Int), .string (bs t), .string (bs d), .slice AK ks.length cK] 41) = w1 at *
    refine wpT_mk rfl ?_
    intro K hK
    go_simp
    refine (pall_any hk hC ta.hp hI0 hBb (by omega) (by omega)).mono ?_
    rintro e w2 ⟨vi1, rfl, vp1, css1, t1, hI1⟩
    have hx1 := t1.kid hx0
    obtain ⟨hblk0, hfr1⟩ := t1.fre _ hfr2
    replace hblk1 := (t1.fre _ hfrb).1.trans hblk1
    replace hS1 : (fun u : World => u.heap[w.heap.size]? = some (.cells #[.int .i64 (kd : Int), .string (bs t), .string (bs d), .slice AK ks.length cK] 41)) w2 := hblk0.trans hS1
    replace t1 := ta.trans t1
    refine ⟨_, hS1, fun _ h => h, hK _ _ _ ?_⟩
    clear hK K hI0 hx0 hfrb hfr2 hblk0
    obtain ⟨c0, c1, cf, hBg, hgz, oi, op, nei, nep⟩ := rowm_all hk hC t1.hp
    have hBs := Nat.le_trans hBd t1.bel.size
    have oi : w2.ownsRow B 41 4 vi1 R.full.length css1.flatten := oi
    obtain ⟨A2, c2, rfl, hc4⟩ := own_shape oi
    refine wpT_app rfl rfl (.tmp 6) (.tmp 8) rfl inlEI (v := .slice A2 R.full.length c2) rfl oi rfl (row_blk hblk1 (n := 1) rfl) (by intro u hu; simp at hu; rcases hu with rfl | rfl | rfl | rfl <;> rfl) (by omega) (by omega) hBs ?_
    intro v' w' ho hg hb hat
    obtain ⟨g', c', rfl, hc', hBg', hgz'⟩ := hq_some ho (by omega)
    obtain ⟨d0, d1, df, dz⟩ := rowm_stay hk hC t1.hp hg.out nei
    have hne0 : (Value.slice A2 R.full.length c2).ownBlock ≠ some w.heap.size := hfr1.2.2 _ _ (rowm_i hk)
    have hS3 : (fun u : World => u.heap[w.heap.size]? = some (.cells #[.int .i64 (kd : Int), .string (bs t), .string (bs d), .slice AK ks.length cK] 41)) w' := (hg.out.block _ hfr1.2.1 (fun e => hne0 e.symm)).trans hS1
    refine ⟨_, hS3, fun _ h => h, ?_⟩
    obtain ⟨t3, hI3⟩ := rowm_more hk hC t1.hp hI1 hBs hx1 ho hg.out hat.out
    have t4 := Lib.hid (td.trans (t1.trans t3))
    have hI4 := Lib.hid hI3
    have hgn : g ≠ w.heap.size := fun e => hfr1.2.2 _ _ (rowm_g hk) (by rw [hC.block, e])
    have hS4 : (fun u : World => u.heap[w.heap.size]? = some (.cells #[.int .i64 (kd : Int), .string (bs t), .string (bs d), .slice AK ks.length cK] 41)) (w'.setCell ⟨g, o, none⟩ (.slice (some ⟨g', 0, none⟩) (R.full.length + 1) c')) := (Below.heap_setCell _ _ _ _ (fun e => hgn e.symm)).trans hS3
    clear t3 hI3 ho hg hb hat d1 t1 hI1 hx1 oi op nei nep c0 c1 cf
    (first | refine wpT_move rfl ?_ | (refine wpT_rd rfl ?_; intro K hK; go_simp; refine hK _ _ _ ?_; clear hK K))
    (first | refine wpT_move rfl ?_ | (refine wpT_rd rfl ?_; intro K hK; go_simp; refine hK _ _ _ ?_; clear hK K))
    refine wpT_mk rfl ?_
    intro K hK
    go_simp
    refine ⟨_, hS4, fun _ h => h, hK _ _ _ ?_⟩
    clear hK K
    refine wpT_fin ?_
    go_wp2_with fail
    go_returns
    exact ⟨rfl, _, _, _, t4.out, hI4.out⟩
end
end Go.Proofs.YtkfhkfagmokjpaaGreatDoor

namespace Go.Proofs.YtkfhkfagmokjpaaGreatDoor
open Go.RowKit

/-- a block of the call's own, newer than all that was there, changes -/
theorem Turn.aside {K K' : Type} {B : Nat} {m : K → Option Pa} {m' : K' → Option Pa} {w wr wr2 : World} {k0 : Nat} (t : Turn B m w m' wr) (hk0 : w.heap.size ≤ k0) (hB : B ≤ w.heap.size) (hfr : Fr wr B m' k0) (hg : wr.grownBy wr2 (some k0)) : Turn B m w m' wr2 ∧ Fr wr2 B m' k0 := by
  refine ⟨⟨⟨fun k a ha => Pa.kept (t.hp.holds k a ha) hg (.inr (hfr.2.2 k a ha)), t.hp.apart⟩, ?_, fun b hb => ?_⟩, hfr.1, Nat.lt_of_lt_of_le hfr.2.1 hg.size, hfr.2.2⟩
  · exact ⟨hg.os.trans t.bel.os, hg.tape.trans t.bel.tape, hg.output.trans t.bel.output, Nat.le_trans t.bel.size hg.size, fun k hk => (hg.block k (by have := t.bel.size; omega) (fun e => by injection e with e; omega)).trans (t.bel.block k hk)⟩
  · obtain ⟨h1, h2⟩ := t.fre b hb
    exact ⟨(hg.block b h2.2.1 (fun e => by have := hb.2.1; injection e with e; omega)).trans h1, h2.1, Nat.lt_of_lt_of_le h2.2.1 hg.size, h2.2.2⟩
theorem grown_iterAt (w : World) (k : Nat) (s : ByteArray) (pos : Nat) : w.grownBy (w.iterAt k s pos) (some k) :=
  ⟨rfl, rfl, rfl, by rw [Lib.iterAt_size]; exact Nat.le_refl _, fun j _ hne => Lib.iterAt_other w k j s pos (fun e => hne (by rw [e]))⟩

section
variable {m : Ky → Option Pa} {k : Ks} {C : Value → Value → Pa} {R : Il.Rw} {vi vp : Value} {css : List (List Value)} {w : World} {B g o : Nat}
set_option maxHeartbeats 4000000 in
set_option maxRecDepth 100000 in
theorem psay_any (hk : k.ok) (hC : Cn g o C) (h : Hq w B (rowm m k C R vi vp css)) (hB : B ≤ w.heap.size) (l : List UInt8) (hl : R.p.length + 4 * l.length ≤ 10000000000) :
    Calls Tryz.prog 62 #[.pointer (some ⟨g, o, none⟩), .string (bs l)] w fun e w' => e = .returned (.tuple #[]) ∧ ∃ vp', Turn B (rowm m k C R vi vp css) w (rowm m k C (R.say (Ru.enc (Ru.runes l))) vi vp' css) w' := by
  have hstep := Lib.hid (fun (D : List Nat) (vp' : Value) (wz : World) (hz : Hq wz B (rowm m k C (R.say (Ru.enc D)) vi vp' css)) (x : Nat) (hx : Ru.vr x) (hBz : B ≤ wz.heap.size) (hD : (Ru.enc D).length ≤ 4 * l.length) =>
    psayRune_any hk hC hz hBz x hx (by show (R.p ++ Ru.enc D).length ≤ _; rw [List.length_append]; omega))
  have h0 := Lib.hid ((h.call (w' := w.alloc (.stringIter (bs l) 0)) hB (ext_alloc w _)))
  have hf0 := Lib.hid (Hq.new (w' := w.alloc (.stringIter (bs l) 0)) h hB (b := w.heap.size) (Nat.le_refl _) (by simp))
  have hR0 : R.say (Ru.enc []) = R := by unfold Il.Rw.say; rw [Ru.enc_nil, List.append_nil]
  clear h
  go_enter Tryz.func62, Tryz.ntmps62
  go_wp2_with fail
  go_loopw [] (fun wr => ∃ (pos : Nat) (D : List Nat) (vp' : Value), Hid (Turn B (rowm m k C R vi vp css) w (rowm m k C (R.say (Ru.enc D)) vi vp' css) wr) ∧ Hid (Fr wr B (rowm m k C (R.say (Ru.enc D)) vi vp' css) w.heap.size) ∧ Hid (wr.heap[w.heap.size]? = some (.stringIter (bs l) pos)) ∧ Hid (D ++ Ru.runes (l.drop pos) = Ru.runes l))
    (fun wr => l.length - wr.iterPos w.heap.size)
  case atStart => exact ⟨0, [], vp, by rw [hR0]; exact h0, by rw [hR0]; exact hf0, Lib.hid (iter_new _ _ _ rfl), Lib.hid (by simp)⟩
  case round =>
    obtain ⟨pos, D, vp', hT, hF, hit, hD⟩ := hrel
    have hdl := runes_part hD.out
    have hbz := hT.out.bel.size
    have hlt : w.heap.size < wr.heap.size := (Array.getElem?_eq_some_iff.1 hit.out).1
    by_cases hp : pos < l.length
    · obtain ⟨x, kk, hkk, hv, hd, hD2⟩ := runes_next hp hD.out
      have hnx := run_next_rune hit.out hp hd
      replace hD2 := Lib.hid hD2
      replace hd := Lib.hid hd
      have hit2 := Lib.hid (Lib.iterAt_heap wr w.heap.size (bs l) pos (pos + kk) hit.out)
      have hpos : Hid (wr.iterPos w.heap.size = pos) := Lib.hid (by simp only [World.iterPos, hit.out])
      have hvx : x ≤ 1114111 := by unfold Ru.vr at hv; omega
      have hDe := (Ru.enc_len D).2
      obtain ⟨hT2, hF2⟩ := hT.out.aside (Nat.le_refl _) hB hF.out (grown_iterAt wr w.heap.size (bs l) (pos + kk))
      have hst := Lib.hid (hstep.out D vp' _ hT2.hp x hv (by have := hT2.bel.size; omega) (by omega))
      replace hT2 := Lib.hid hT2
      replace hF2 := Lib.hid hF2
      have hsn : Hid ((R.say (Ru.enc D)).say (Lib.encodeRune (x : Int)) = R.say (Ru.enc (D ++ [x]))) := Lib.hid (by unfold Il.Rw.say; rw [Ru.enc_snoc, List.append_assoc])
      have hsz2 : (wr.iterAt w.heap.size (bs l) (pos + kk)).heap.size = wr.heap.size := Lib.iterAt_size _ _ _ _
      obtain ⟨w2, hw2⟩ : ∃ w2, w2 = wr.iterAt w.heap.size (bs l) (pos + kk) := ⟨_, rfl⟩
      rw [← hw2] at hnx hit2 hT2 hF2 hst hsz2
      clear hT hF hit hw2
      go_wp2_with fail
      refine hst.out.mono ?_
      rintro e w3 ⟨rfl, vp3, hT3⟩
      rw [hsn.out] at hT3
      have hF3 := hT3.fre _ hF2.out
      have hT4 := Lib.hid (hT2.out.trans hT3)
      have hit3 := Lib.hid (hF3.1.trans hit2.out)
      have hF4 := Lib.hid hF3.2
      have hpos3 : Hid (w3.iterPos w.heap.size = pos + kk) := Lib.hid (by simp only [World.iterPos, hit3.out])
      clear hT3 hF3
      go_wp2_with fail
      go_roundw
      case rel => exact ⟨pos + kk, D ++ [x], vp3, hT4, hF4, hit3, hD2⟩
      case measure => rw [hpos.out, hpos3.out]; omega
    · have hnx := run_next_done hit.out hp
      have hDD := runes_done hp hD.out
      subst hDD
      go_wp2_with fail
      go_returns
      exact ⟨rfl, vp', hT.out⟩
end
end Go.Proofs.YtkfhkfagmokjpaaGreatDoor

namespace Go.Proofs.YtkfhkfagmokjpaaGreatDoor
open Go.RowKit

set_option maxHeartbeats 1000000 in
set_option maxRecDepth 100000 in
theorem prun_any (l : List UInt8) (a : Nat) (c : UInt8) (w : World) (hl : l.length ≤ 1000000000000) (hle : a ≤ l.length) :
    Calls Tryz.prog 61 #[.string (bs l), .int .i64 (a : Int), .int .u8 (c.toNat : Int)] w fun e w' => e = .returned (.int .i64 (Fn.run c (l.drop a) : Nat)) ∧ w = w' := by
  have hsz := bs_size l
  go_enter Tryz.func61, Tryz.ntmps61
  go_wp2_with fail
  go_loop [7] (fun u => ∃ k : Nat, a ≤ k ∧ k ≤ l.length ∧ u = .int .i64 (k : Int) ∧ Hid (k + Fn.run c (l.drop k) = a + Fn.run c (l.drop a))) (fun u => l.length - (intOf u).toNat)
  case atStart => exact ⟨a, by omega, hle, rfl, Lib.hid rfl⟩
  case round =>
    obtain ⟨k, hk1, hk, rfl, hf⟩ := hrel
    by_cases hlt : k < l.length
    · have hx := run_byte hlt w
      by_cases hc : l[k] = c
      · have ht := byte_same hc
        have hf2 : Hid (k + 1 + Fn.run c (l.drop (k + 1)) = a + Fn.run c (l.drop a)) := Lib.hid (by have := hf.out; rw [Fn.run_at hlt hc] at this; omega)
        clear hc
        go_wp2
        go_round
        case rel => exact ⟨k + 1, by omega, by omega, by go_num, hf2⟩
        case measure => simp [intOf]; omega
      · have ht := byte_diff hc
        have hfin := Lib.hid (show k = a + Fn.run c (l.drop a) from by have := hf.out; rw [Fn.run_no hlt hc] at this; omega)
        clear hc
        go_wp2
        go_returns
        exact ⟨by refine ret_i64 ?_; have := hfin.out; omega, rfl⟩
    · have hfin := Lib.hid (show k = a + Fn.run c (l.drop a) from by have := hf.out; rw [Fn.run_end hlt] at this; omega)
      go_wp2
      go_returns
      exact ⟨by refine ret_i64 ?_; have := hfin.out; omega, rfl⟩

set_option maxHeartbeats 2000000 in
set_option maxRecDepth 100000 in
theorem pbegins_off (l : List UInt8) (at_ : Int) (_hs : l.length ≤ 1000000000000) (ho : at_ < 0 ∨ (0 ≤ at_ ∧ (l.length : Int) ≤ at_) ∨ (0 ≤ at_ ∧ ∃ h : at_.toNat < l.length, ((l[at_.toNat].toNat : Int) == 42) = false ∧ ((l[at_.toNat].toNat : Int) == 95) = false)) (w : World) :
    Calls Tryz.prog 83 #[.string (bs l), .int .i64 at_] w fun e w' => e = .returned (.bool false) ∧ Below w.heap.size w w' := by
  have hsz := bs_size l
  rcases ho with h | ⟨h0, h⟩ | ⟨h0, hl, h1, h2⟩
  · have d1 : decide (at_ < 0) = true := decide_eq_true h
    go_enter Tryz.func83, Tryz.ntmps83
    go_wp2_with fail
    go_ret
    exact ⟨rfl, Below.refl _ _⟩
  · have d1 : decide (at_ < 0) = false := decide_eq_false (by omega)
    have d2 : decide (((l.length : Nat) : Int) ≤ at_) = true := decide_eq_true h
    go_enter Tryz.func83, Tryz.ntmps83
    go_wp2_with fail
    go_ret
    exact ⟨rfl, Below.refl _ _⟩
  · have d1 : decide (at_ < 0) = false := decide_eq_false (by omega)
    have d2 : decide (((l.length : Nat) : Int) ≤ at_) = false := decide_eq_false (by omega)
    have hix := run_byte_at (i := at_.toNat) (v := at_) (S := l) hl (by omega)
    have e1 : ((l[at_.toNat].toNat : Int) != 42) = true := by simp only [bne, h1]; rfl
    have e2 : ((l[at_.toNat].toNat : Int) != 95) = true := by simp only [bne, h2]; rfl
    generalize l[at_.toNat] = ch at *
    go_enter Tryz.func83, Tryz.ntmps83
    go_wp2_with fail
    go_ret
    exact ⟨rfl, Below.refl _ _⟩

set_option maxHeartbeats 2000000 in
set_option maxRecDepth 100000 in
theorem pbegins_in (l : List UInt8) (k : Nat) (hs : l.length ≤ 1000000000000) (hk : k < l.length) (h1 : ((l[k].toNat : Int) == 42) = true ∨ (((l[k].toNat : Int) == 42) = false ∧ ((l[k].toNat : Int) == 95) = true)) (t : Bool)
    (ht : (k = 0 ∧ t = true) ∨ (0 < k ∧ ∃ h : k - 1 < l.length, ((l[k - 1].toNat : Int) == (l[k].toNat : Int)) = !t)) (w : World) :
    Calls Tryz.prog 83 #[.string (bs l), .int .i64 (k : Int)] w fun e w' => e = .returned (.bool t) ∧ Below w.heap.size w w' := by
  have hsz := bs_size l
  have hbz := fun nq => below_drewN (Below.refl w.heap.size w) nq
  replace hbz := Lib.hid hbz
  have d1 : decide ((k : Int) < 0) = false := decide_eq_false (by omega)
  have d2 : decide (((l.length : Nat) : Int) ≤ (k : Int)) = false := decide_eq_false (by omega)
  have hix := run_byte hk
  have e1 : ((l[k].toNat : Int) != 42) = !((l[k].toNat : Int) == 42) := rfl
  have e2 : ((l[k].toNat : Int) != 95) = !((l[k].toNat : Int) == 95) := rfl
  rcases ht with ⟨h0, rfl⟩ | ⟨h0, hp, ht⟩
  · have d3 : ((k : Int) == 0) = true := by simpa using h0
    generalize l[k] = ch at *
    clear h0
    rcases h1 with h1 | ⟨h1, h1'⟩
    all_goals
      go_enter Tryz.func83, Tryz.ntmps83
      go_wp2_with fail
      go_quiet (fail)
      go_wp2_with fail
      go_ret
      exact ⟨rfl, hbz.out nq⟩
  · have d3 : ((k : Int) == 0) = false := by
      rw [beq_eq_false_iff_ne]; omega
    have hix1 := run_byte_at (i := k - 1) (v := (k : Int) - 1) (S := l) hp (by omega)
    have e3 : ((l[k - 1].toNat : Int) != (l[k].toNat : Int)) = t := by simp only [bne, ht, Bool.not_not]
    clear ht
    generalize l[k] = ch at *
    generalize l[k - 1] = cp at *
    rcases h1 with h1 | ⟨h1, h1'⟩
    all_goals
      go_enter Tryz.func83, Tryz.ntmps83
      go_wp2_with fail
      go_quiet (fail)
      go_wp2_with fail
      go_ret
      exact ⟨rfl, hbz.out nq⟩

theorem pbegins_any (l : List UInt8) (at_ : Int) (hs : l.length ≤ 1000000000000) (w : World) :
    Calls Tryz.prog 83 #[.string (bs l), .int .i64 at_] w fun e w' => e = .returned (.bool (Em.starts l at_)) ∧ Below w.heap.size w w' := by
  by_cases h0 : at_ < 0
  · rw [Em.starts_no (.inl h0)]
    exact pbegins_off l at_ hs (.inl h0) w
  · by_cases h1 : (l.length : Int) ≤ at_
    · rw [Em.starts_no (.inr (.inl h1))]
      exact pbegins_off l at_ hs (.inr (.inl ⟨by omega, h1⟩)) w
    · obtain ⟨k, rfl⟩ : ∃ k : Nat, at_ = (k : Int) := ⟨at_.toNat, by omega⟩
      have hk : k < l.length := by omega
      by_cases h2 : l[k] = 42 ∨ l[k] = 95
      · have hsg : ((l[k].toNat : Int) == 42) = true ∨ (((l[k].toNat : Int) == 42) = false ∧ ((l[k].toNat : Int) == 95) = true) := by
          rcases h2 with h2 | h2
          · rw [h2]; exact .inl rfl
          · rw [h2]; exact .inr ⟨rfl, rfl⟩
        rcases Nat.eq_zero_or_pos k with hz | hz
        · rw [Em.starts_yes hk h2 (.inl hz)]
          exact pbegins_in l k hs hk hsg true (.inl ⟨hz, rfl⟩) w
        · by_cases h3 : l[k - 1] = l[k]
          · rw [Em.starts_no (l := l) (at_ := (k : Int)) (.inr (.inr (.inr ⟨by omega, hk, h3⟩)))]
            exact pbegins_in l k hs hk hsg false (.inr ⟨hz, by omega, byte_same h3⟩) w
          · rw [Em.starts_yes hk h2 (.inr ⟨by omega, h3⟩)]
            exact pbegins_in l k hs hk hsg true (.inr ⟨hz, by omega, byte_diff h3⟩) w
      · have hn : l[k] ≠ 42 ∧ l[k] ≠ 95 := ⟨fun h => h2 (.inl h), fun h => h2 (.inr h)⟩
        rw [Em.starts_no (l := l) (at_ := (k : Int)) (.inr (.inr (.inl ⟨hk, hn⟩)))]
        exact pbegins_off l (k : Int) hs (.inr (.inr ⟨by omega, hk, byte_ne (n := 42) (by omega) hn.1, byte_ne (n := 95) (by omega) hn.2⟩)) w

set_option maxHeartbeats 2000000 in
theorem pleans_any (a b : Nat) (w : World) :
    Calls Tryz.prog 85 #[.int .i32 (a : Int), .int .i32 (b : Int)] w fun e w' => e = .returned (.bool (Em.leanB b a)) ∧ w = w' := by
  unfold Em.leanB
  obtain ⟨BA, hBA⟩ : ∃ x, blankB (a : Int) = x := ⟨_, rfl⟩
  obtain ⟨BB, hBB⟩ : ∃ x, blankB (b : Int) = x := ⟨_, rfl⟩
  obtain ⟨PA, hPA⟩ : ∃ x, punctB (a : Int) = x := ⟨_, rfl⟩
  obtain ⟨PB, hPB⟩ : ∃ x, punctB (b : Int) = x := ⟨_, rfl⟩
  have q1 := fun w => blank_any (a : Int) w
  have q2 := fun w => blank_any (b : Int) w
  have q3 := fun w => punct_any (a : Int) w
  have q4 := fun w => punct_any (b : Int) w
  rw [hBA] at q1 ⊢
  rw [hBB] at q2 ⊢
  rw [hPA] at q3 ⊢
  rw [hPB] at q4 ⊢
  clear hBA hBB hPA hPB
  go_enter Tryz.func85, Tryz.ntmps85
  go_wp2_with fail
  refine (q1 _).mono ?_
  rintro e w1 ⟨rfl, rfl⟩
  cases BA with
  | true =>
    go_wp2_with fail
    go_ret
    exact ⟨rfl, rfl⟩
  | false =>
    go_wp2_with fail
    refine (q3 _).mono ?_
    rintro e w1 ⟨rfl, rfl⟩
    cases PA with
    | false =>
      go_wp2_with fail
      go_ret
      exact ⟨rfl, rfl⟩
    | true =>
      go_wp2_with fail
      refine (q2 _).mono ?_
      rintro e w1 ⟨rfl, rfl⟩
      cases BB with
      | true =>
        go_wp2_with fail
        go_ret
        exact ⟨rfl, rfl⟩
      | false =>
        go_wp2_with fail
        refine (q4 _).mono ?_
        rintro e w1 ⟨rfl, rfl⟩
        go_wp2_with fail
        go_ret
        exact ⟨rfl, rfl⟩
end Go.Proofs.YtkfhkfagmokjpaaGreatDoor

namespace Go.Proofs.YtkfhkfagmokjpaaGreatDoor
open Go.RowKit


set_option maxHeartbeats 8000000 in
set_option maxRecDepth 100000 in
theorem rkind_on_z42 (l : List UInt8) (k : Nat) (hk : k < l.length) (hs : l.length ≤ 1000000000000) (hsg : ((l[k].toNat : Int) == 42) = true ∧ ((l[k].toNat : Int) == 95) = false ∧ l[k] ≠ 95) (hk0 : (k : Int) ≤ 0) (w : World) :
    Calls Tryz.prog 31 #[.string (bs l), .int .i64 (k : Int)] w fun e w' => e = .returned (kindV (some (Em.judge l[k] (Fn.run l[k] (l.drop k)) (Em.ahead l k) (Em.behind l (k + Fn.run l[k] (l.drop k))), k + Fn.run l[k] (l.drop k)))) ∧ Below w.heap.size w w' := by
  have hsz := bs_size l
  have hix := run_byte hk
  have hup := run_upto (S := l) (i := k) (by omega)
  have hne1 : ((l[k].toNat : Int) != 42) = !((l[k].toNat : Int) == 42) := rfl
  have hne2 : ((l[k].toNat : Int) != 95) = !((l[k].toNat : Int) == 95) := rfl
  have hin := Em.runs_in hk l[k]
  have q1 := rrun_any l k l[k]
  replace q1 := fun w => q1 w (by omega) (by omega)
  have q2 := fun w => rone_any l (k + Fn.run l[k] (l.drop k)) (w := w)
  have hbi : k + Fn.run l[k] (l.drop k) < l.length → Em.behind l (k + Fn.run l[k] (l.drop k)) = (Lib.decodeL (l.drop (k + Fn.run l[k] (l.drop k)))).1 := Em.behind_in
  have hbo : ¬ k + Fn.run l[k] (l.drop k) < l.length → Em.behind l (k + Fn.run l[k] (l.drop k)) = 32 := Em.behind_out
  obtain ⟨a, ha⟩ : ∃ a, a = Em.behind l (k + Fn.run l[k] (l.drop k)) := ⟨_, rfl⟩
  obtain ⟨b, hb⟩ : ∃ b, b = Em.ahead l k := ⟨_, rfl⟩
  rw [← ha] at hbi hbo
  rw [← ha, ← hb]
  clear ha
  have hbd : Hid ((Ru.runes (l.take k)).getLastD 32 = b) := Lib.hid hb.symm
  clear hb
  obtain ⟨n, hn⟩ : ∃ n, n = Fn.run l[k] (l.drop k) := ⟨_, rfl⟩
  rw [← hn] at hin q1 q2 hbi hbo ⊢
  clear hn
  obtain ⟨h42, h95, hc9⟩ := hsg
  have hj : ∃ x y, Em.judge l[k] n b a = ⟨l[k], n, x, y⟩ ∧ (x = Em.leanB b a ∧ y = Em.leanB a b) := by
    unfold Em.judge
    rw [if_neg hc9]; exact ⟨_, _, rfl, rfl, rfl⟩
  obtain ⟨x, y, hj, hxy⟩ := hj
  rw [hj]
  clear hj
  have hcm : ((l[k].toNat : Int) == 42) = true ∧ ((l[k].toNat : Int) == 95) = false ∧ x = Em.leanB b a ∧ y = Em.leanB a b := ⟨h42, h95, hxy⟩
  clear h42 h95 hc9 hxy
  unfold Em.leanB at hcm
  obtain ⟨BA, hBA⟩ : ∃ v, blankB (a : Int) = v := ⟨_, rfl⟩
  obtain ⟨BB, hBB⟩ : ∃ v, blankB (b : Int) = v := ⟨_, rfl⟩
  obtain ⟨PA, hPA⟩ : ∃ v, punctB (a : Int) = v := ⟨_, rfl⟩
  obtain ⟨PB, hPB⟩ : ∃ v, punctB (b : Int) = v := ⟨_, rfl⟩
  rw [hBA, hBB, hPA, hPB] at hcm
  obtain ⟨ch, hch⟩ : ∃ ch, ch = l[k] := ⟨_, rfl⟩
  rw [← hch] at hix hne1 hne2 q1 hcm ⊢
  clear hch
  obtain ⟨T, hT⟩ : ∃ T, T = l.take k := ⟨_, rfl⟩
  have hTl : T.length = k := by rw [hT, List.length_take]; omega
  rw [← hT] at hup hbd
  clear hT
  have hst : Hid (∀ wz : World, Below (w.alloc (.cells #[.int .u8 0, .int .i64 0, .bool false, .bool false] 74)).heap.size (w.alloc (.cells #[.int .u8 0, .int .i64 0, .bool false, .bool false] 74)) wz →
      wz.cell? ⟨w.heap.size, 0, none⟩ = some (.int .u8 0) ∧ wz.cell? ⟨w.heap.size, 1, none⟩ = some (.int .i64 0) ∧ wz.cell? ⟨w.heap.size, 2, none⟩ = some (.bool false) ∧ wz.cell? ⟨w.heap.size, 3, none⟩ = some (.bool false) ∧ (∀ j, wz.frozen? ⟨w.heap.size, j, none⟩ = false) ∧ w.heap.size < wz.heap.size) :=
    Lib.hid fun wz h => by
      obtain ⟨k0, k1, k2, k3, k4⟩ := blk_open h
      have := h.size
      simp at this
      exact ⟨k0, k1, k2, k3, k4, by omega⟩
  have dd1 : decide ((k : Int) < 0) = false := decide_eq_false (by omega)
  have dd2 : decide (((l.length : Nat) : Int) ≤ (k : Int)) = false := decide_eq_false (by omega)
  have dd3 : decide (l.length ≤ k) = false := decide_eq_false (by omega)
  have dd4 : decide ((0 : Int) < (k : Int)) = false := decide_eq_false (by omega)
  have dd5 : decide (0 < k) = false := decide_eq_false (by omega)
  have dd6 : ((l.length : Nat) : Int) ≤ (k : Int) ↔ False := ⟨fun h => by omega, fun h => h.elim⟩
  obtain ⟨g1, g2, hx, hy⟩ := hcm
  replace hx := Lib.hid hx
  replace hy := Lib.hid hy
  go_enter Tryz.func31, Tryz.ntmps31
  go_wp2_with fail
  go_quiet (fail)
  go_wp2_with fail
  refine (q1 _).mono ?_
  rintro e w1 ⟨rfl, rfl⟩
  generalize hW : (w.alloc (.cells #[.int .u8 0, .int .i64 0, .bool false, .bool false] 74)).drewN nq = W
  have hB : Hid (Below (w.alloc (.cells #[.int .u8 0, .int .i64 0, .bool false, .bool false] 74)).heap.size (w.alloc (.cells #[.int .u8 0, .int .i64 0, .bool false, .bool false] 74)) W) := Lib.hid (by rw [← hW]; exact below_drewN (Below.refl _ _) nq)
  clear hW
  go_wp2_with fail
  go_loopw [8] (fun bv wr => ∃ (pos : Nat) (D : List Nat), bv = .int .i32 ((D.getLastD 32 : Nat) : Int) ∧ Hid (wr.heap[W.heap.size]? = some (.stringIter (bs T) pos)) ∧ Hid (D ++ Ru.runes (T.drop pos) = Ru.runes T) ∧ Below W.heap.size W wr)
    (fun _ wr => T.length - wr.iterPos W.heap.size)
  case atStart => exact ⟨0, [], rfl, Lib.hid (iter_new _ _ _ rfl), Lib.hid rfl, ext_alloc _ _⟩
  case round =>
    obtain ⟨pos, D, rfl, hit, hD, hb⟩ := hrel
    have hlt : W.heap.size < wr.heap.size := (Array.getElem?_eq_some_iff.1 hit.out).1
    by_cases hp : pos < T.length
    · obtain ⟨z, m, hm, hv, hd, hD2⟩ := runes_next hp hD.out
      have hnx := run_next_rune hit.out hp hd
      replace hD2 := Lib.hid hD2
      replace hd := Lib.hid hd
      have hit2 := Lib.hid (Lib.iterAt_heap wr W.heap.size (bs T) pos (pos + m) hit.out)
      have hb2 := Lib.below_iterAt hb (k := W.heap.size) (Nat.le_refl _) (bs T) (pos + m)
      have hpos : Hid (wr.iterPos W.heap.size = pos) := Lib.hid (by simp only [World.iterPos, hit.out])
      have hpos2 : Hid ((wr.iterAt W.heap.size (bs T) (pos + m)).iterPos W.heap.size = pos + m) := Lib.hid (by simp only [World.iterPos, hit2.out])
      clear q1 q2 hbi hbo hst hix hup
      go_wp2
      go_roundw
      case rel => exact ⟨pos + m, D ++ [z], by rw [List.getLastD_concat], hit2, hD2, hb2⟩
      case measure => rw [hpos.out, hpos2.out]; omega
    · have hnx := run_next_done hit.out hp
      have hDe := runes_done hp hD.out
      subst hDe
      rw [hbd.out]
      have hb0 := Lib.hid (hB.out.trans (hb.mono hB.out.size))
      replace hb := Lib.hid hb
      clear hD hbd hup
      by_cases hkn : k + n < l.length
      · have hav := hbi hkn
        have q3 := fun w => q2 w hkn hs
        rw [← hav] at q3
        clear hav hbi hbo q2 q1
        go_wp2_with fail
        refine (q3 _).mono ?_
        rintro e w3 ⟨rfl, hb3⟩
        have hb4 := Lib.hid (hb0.out.trans (hb3.mono hb0.out.size))
        clear q3 hb3 hit hb0 hb hB dd1 dd2 dd3 dd4 dd5 dd6
        go_upto_region 11 with fail
        refine kind_left _ _ BA BB PA PB w3 hBA hBB hPA hPB _ _ _ _ _ _ _ _ _ _ _ _ _ _ _ _ _ _ _ _ _ _ _ _ _ _ _ _ _ _ _ _ _ _ _ _ _ _ _ _ _ _ _ _ _ _ _ _ _ _ _ _ _ _ _ _ _ _ _ _ _ _ _ _ _ _ _ _ _ _ _ _ _ _ _ _ _ _ _ _ _ _ _ _ _ _ _ _ _ _ _ _ _ _ _ _ _ _ _ _ _ _ _ _ _ _ _ _ _ _ _ _ _ _ _ _ _ _ _ _ _ _ _ _ _ _ _ _ _ _ _ _ _ _ _ _ _ _ _ _ _ _ _ _ ?_
        intro v78 v79 v80 v81 v82 v83 v84 v85 v86 v87 v88 v89 v90 v91 v92 v93 wq hwq
        rw [hwq]
        clear hwq wq
        go_upto_region 12 with fail
        refine kind_right _ _ BA BB PA PB w3 hBA hBB hPA hPB _ _ _ _ _ _ _ _ _ _ _ _ _ _ _ _ _ _ _ _ _ _ _ _ _ _ _ _ _ _ _ _ _ _ _ _ _ _ _ _ _ _ _ _ _ _ _ _ _ _ _ _ _ _ _ _ _ _ _ _ _ _ _ _ _ _ _ _ _ _ _ _ _ _ _ _ _ _ _ _ _ _ _ _ _ _ _ _ _ _ _ _ _ _ _ _ _ _ _ _ _ _ _ _ _ _ _ _ _ _ _ _ _ _ _ _ _ _ _ _ _ _ _ _ _ _ _ _ _ _ _ _ _ _ _ _ _ _ _ _ _ _ _ _ ?_
        intro v94 v95 v96 v97 v98 v99 v100 v101 v102 v103 v104 v105 v106 v107 v108 v109 wq hwq
        rw [hwq]
        clear hwq wq
        go_upto_region 13 with fail
        refine kind_made l k n _ _ ch w3 hix _ _ _ _ _ _ _ _ _ _ _ _ _ _ _ _ _ _ _ _ _ _ _ _ _ _ _ _ _ _ _ _ _ _ _ _ _ _ _ _ _ _ _ _ _ _ _ _ _ _ _ _ _ _ _ _ _ _ _ _ _ _ _ _ _ _ _ _ _ _ _ _ _ _ _ _ _ _ _ _ _ _ _ _ _ _ _ _ _ _ _ _ _ _ _ _ _ _ _ _ _ _ _ _ _ _ _ _ _ _ _ _ _ _ _ _ _ _ _ _ _ _ _ _ _ _ _ _ _ _ _ _ _ _ _ _ _ _ _ _ _ ?_
        intro v110 v111 v112 v113 v114 v115 v116 w4 hw4
        have hh := Lib.hid (show w4.heap[(w3).heap.size]? = some (.cells #[.int .u8 (ch.toNat : Int), .int .i64 (n : Int), .bool (!BA && (!PA || BB || PB)), .bool (!BB && (!PB || BA || PA))] 74 (0, 0)) from by rw [hw4]; exact heap_alloc_new _ _)
        have hb5 := Lib.hid (show Below (w.alloc (.cells #[.int .u8 0, .int .i64 0, .bool false, .bool false] 74)).heap.size (w.alloc (.cells #[.int .u8 0, .int .i64 0, .bool false, .bool false] 74)) w4 from by rw [hw4]; exact hb4.out.alloc hb4.out.size _)
        have hg1 : w.heap.size < (w3).heap.size := (hst.out _ hb4.out).2.2.2.2.2
        have hg0 := hb4.out.size
        replace ex := hx.out
        replace ey := hy.out
        clear hw4 hx hy
        obtain ⟨z0, z1, z2, z3⟩ := four hh.out
        obtain ⟨k0, k1, k2, k3, k4, k5⟩ := hst.out _ hb5.out
        clear hst
        go_upto_region 17 with fail
        refine kind_last w.heap.size (w3).heap.size k n ch _ _ w4 (by omega) z0 z1 z2 z3 k0 k1 k2 k3 k4 _ _ _ _ _ _ _ _ _ _ _ _ _ _ _ _ _ _ _ _ _ _ _ _ _ _ _ _ _ _ _ _ _ _ _ _ _ _ _ _ _ _ _ _ _ _ _ _ _ _ _ _ _ _ _ _ _ _ _ _ _ _ _ _ _ _ _ _ _ _ _ _ _ _ _ _ _ _ _ _ _ _ _ _ _ _ _ _ _ _ _ _ _ _ _ _ _ _ _ _ _ _ _ _ _ _ _ _ _ _ _ _ _ _ _ _ _ _ _ _ _ _ _ _ _ _ _ _ _ _ _ _ _ _ _ _ _ _ _ _ _ _ ?_
        intro v141 v142 v143 v144 wq hwq
        rw [hwq]
        clear hwq wq z0 z1 z2 z3
        try clear hix
        try clear hne1
        try clear hne2
        try clear hnx
        try clear g1
        try clear g2
        try clear hBA
        try clear hBB
        try clear hPA
        try clear hPB
        try clear hTl
        try clear hlt
        try clear hsz
        try clear hix1
        try clear hpr
        try clear hp
        try clear hkn
        try clear hk1
        try clear hg1
        try clear hg0
        try clear q1
        go_wp2_with fail
        exact bodyPost_ret (v := .tuple #[.agg #[.int .u8 (ch.toNat : Int), .int .i64 (n : Int), .bool (!BA && (!PA || BB || PB)), .bool (!BB && (!PB || BA || PA))], .int .i64 ((k + n : Nat) : Int), .bool true]) (by rw [results_cell_tmp2 rfl]; go_simp) rfl ⟨by rw [ex, ey]; rfl, blk_done hb5.out _ _ _ _⟩
      · obtain rfl := hbo hkn
        rw [show ((32 : Nat) : Int) = 32 from rfl] at hBA hPA
        have hb4 := hb0
        clear hbi hbo q2 q1 hit hb0 hb hB dd1 dd2 dd3 dd4 dd5 dd6
        go_upto_region 11 with fail
        refine kind_left _ _ BA BB PA PB wr hBA hBB hPA hPB _ _ _ _ _ _ _ _ _ _ _ _ _ _ _ _ _ _ _ _ _ _ _ _ _ _ _ _ _ _ _ _ _ _ _ _ _ _ _ _ _ _ _ _ _ _ _ _ _ _ _ _ _ _ _ _ _ _ _ _ _ _ _ _ _ _ _ _ _ _ _ _ _ _ _ _ _ _ _ _ _ _ _ _ _ _ _ _ _ _ _ _ _ _ _ _ _ _ _ _ _ _ _ _ _ _ _ _ _ _ _ _ _ _ _ _ _ _ _ _ _ _ _ _ _ _ _ _ _ _ _ _ _ _ _ _ _ _ _ _ _ _ _ _ ?_
        intro v78 v79 v80 v81 v82 v83 v84 v85 v86 v87 v88 v89 v90 v91 v92 v93 wq hwq
        rw [hwq]
        clear hwq wq
        go_upto_region 12 with fail
        refine kind_right _ _ BA BB PA PB wr hBA hBB hPA hPB _ _ _ _ _ _ _ _ _ _ _ _ _ _ _ _ _ _ _ _ _ _ _ _ _ _ _ _ _ _ _ _ _ _ _ _ _ _ _ _ _ _ _ _ _ _ _ _ _ _ _ _ _ _ _ _ _ _ _ _ _ _ _ _ _ _ _ _ _ _ _ _ _ _ _ _ _ _ _ _ _ _ _ _ _ _ _ _ _ _ _ _ _ _ _ _ _ _ _ _ _ _ _ _ _ _ _ _ _ _ _ _ _ _ _ _ _ _ _ _ _ _ _ _ _ _ _ _ _ _ _ _ _ _ _ _ _ _ _ _ _ _ _ _ ?_
        intro v94 v95 v96 v97 v98 v99 v100 v101 v102 v103 v104 v105 v106 v107 v108 v109 wq hwq
        rw [hwq]
        clear hwq wq
        go_upto_region 13 with fail
        refine kind_made l k n _ _ ch wr hix _ _ _ _ _ _ _ _ _ _ _ _ _ _ _ _ _ _ _ _ _ _ _ _ _ _ _ _ _ _ _ _ _ _ _ _ _ _ _ _ _ _ _ _ _ _ _ _ _ _ _ _ _ _ _ _ _ _ _ _ _ _ _ _ _ _ _ _ _ _ _ _ _ _ _ _ _ _ _ _ _ _ _ _ _ _ _ _ _ _ _ _ _ _ _ _ _ _ _ _ _ _ _ _ _ _ _ _ _ _ _ _ _ _ _ _ _ _ _ _ _ _ _ _ _ _ _ _ _ _ _ _ _ _ _ _ _ _ _ _ _ ?_
        intro v110 v111 v112 v113 v114 v115 v116 w4 hw4
        have hh := Lib.hid (show w4.heap[(wr).heap.size]? = some (.cells #[.int .u8 (ch.toNat : Int), .int .i64 (n : Int), .bool (!BA && (!PA || BB || PB)), .bool (!BB && (!PB || BA || PA))] 74 (0, 0)) from by rw [hw4]; exact heap_alloc_new _ _)
        have hb5 := Lib.hid (show Below (w.alloc (.cells #[.int .u8 0, .int .i64 0, .bool false, .bool false] 74)).heap.size (w.alloc (.cells #[.int .u8 0, .int .i64 0, .bool false, .bool false] 74)) w4 from by rw [hw4]; exact hb4.out.alloc hb4.out.size _)
        have hg1 : w.heap.size < (wr).heap.size := (hst.out _ hb4.out).2.2.2.2.2
        have hg0 := hb4.out.size
        replace ex := hx.out
        replace ey := hy.out
        clear hw4 hx hy
        obtain ⟨z0, z1, z2, z3⟩ := four hh.out
        obtain ⟨k0, k1, k2, k3, k4, k5⟩ := hst.out _ hb5.out
        clear hst
        go_upto_region 17 with fail
        refine kind_last w.heap.size (wr).heap.size k n ch _ _ w4 (by omega) z0 z1 z2 z3 k0 k1 k2 k3 k4 _ _ _ _ _ _ _ _ _ _ _ _ _ _ _ _ _ _ _ _ _ _ _ _ _ _ _ _ _ _ _ _ _ _ _ _ _ _ _ _ _ _ _ _ _ _ _ _ _ _ _ _ _ _ _ _ _ _ _ _ _ _ _ _ _ _ _ _ _ _ _ _ _ _ _ _ _ _ _ _ _ _ _ _ _ _ _ _ _ _ _ _ _ _ _ _ _ _ _ _ _ _ _ _ _ _ _ _ _ _ _ _ _ _ _ _ _ _ _ _ _ _ _ _ _ _ _ _ _ _ _ _ _ _ _ _ _ _ _ _ _ _ ?_
        intro v141 v142 v143 v144 wq hwq
        rw [hwq]
        clear hwq wq z0 z1 z2 z3
        try clear hix
        try clear hne1
        try clear hne2
        try clear hnx
        try clear g1
        try clear g2
        try clear hBA
        try clear hBB
        try clear hPA
        try clear hPB
        try clear hTl
        try clear hlt
        try clear hsz
        try clear hix1
        try clear hpr
        try clear hp
        try clear hkn
        try clear hk1
        try clear hg1
        try clear hg0
        try clear q1
        go_wp2_with fail
        exact bodyPost_ret (v := .tuple #[.agg #[.int .u8 (ch.toNat : Int), .int .i64 (n : Int), .bool (!BA && (!PA || BB || PB)), .bool (!BB && (!PB || BA || PA))], .int .i64 ((k + n : Nat) : Int), .bool true]) (by rw [results_cell_tmp2 rfl]; go_simp) rfl ⟨by rw [ex, ey]; rfl, blk_done hb5.out _ _ _ _⟩
end Go.Proofs.YtkfhkfagmokjpaaGreatDoor

namespace Go.Proofs.YtkfhkfagmokjpaaGreatDoor
open Go.RowKit


set_option maxHeartbeats 8000000 in
set_option maxRecDepth 100000 in
theorem rkind_on_z95 (l : List UInt8) (k : Nat) (hk : k < l.length) (hs : l.length ≤ 1000000000000) (hsg : ((l[k].toNat : Int) == 42) = false ∧ ((l[k].toNat : Int) == 95) = true ∧ l[k] = 95) (hk0 : (k : Int) ≤ 0) (w : World) :
    Calls Tryz.prog 31 #[.string (bs l), .int .i64 (k : Int)] w fun e w' => e = .returned (kindV (some (Em.judge l[k] (Fn.run l[k] (l.drop k)) (Em.ahead l k) (Em.behind l (k + Fn.run l[k] (l.drop k))), k + Fn.run l[k] (l.drop k)))) ∧ Below w.heap.size w w' := by
  have hsz := bs_size l
  have hix := run_byte hk
  have hup := run_upto (S := l) (i := k) (by omega)
  have hne1 : ((l[k].toNat : Int) != 42) = !((l[k].toNat : Int) == 42) := rfl
  have hne2 : ((l[k].toNat : Int) != 95) = !((l[k].toNat : Int) == 95) := rfl
  have hin := Em.runs_in hk l[k]
  have q1 := rrun_any l k l[k]
  replace q1 := fun w => q1 w (by omega) (by omega)
  have q2 := fun w => rone_any l (k + Fn.run l[k] (l.drop k)) (w := w)
  have hbi : k + Fn.run l[k] (l.drop k) < l.length → Em.behind l (k + Fn.run l[k] (l.drop k)) = (Lib.decodeL (l.drop (k + Fn.run l[k] (l.drop k)))).1 := Em.behind_in
  have hbo : ¬ k + Fn.run l[k] (l.drop k) < l.length → Em.behind l (k + Fn.run l[k] (l.drop k)) = 32 := Em.behind_out
  obtain ⟨a, ha⟩ : ∃ a, a = Em.behind l (k + Fn.run l[k] (l.drop k)) := ⟨_, rfl⟩
  obtain ⟨b, hb⟩ : ∃ b, b = Em.ahead l k := ⟨_, rfl⟩
  rw [← ha] at hbi hbo
  rw [← ha, ← hb]
  clear ha
  have hbd : Hid ((Ru.runes (l.take k)).getLastD 32 = b) := Lib.hid hb.symm
  clear hb
  obtain ⟨n, hn⟩ : ∃ n, n = Fn.run l[k] (l.drop k) := ⟨_, rfl⟩
  rw [← hn] at hin q1 q2 hbi hbo ⊢
  clear hn
  obtain ⟨h42, h95, hc9⟩ := hsg
  have hj : ∃ x y, Em.judge l[k] n b a = ⟨l[k], n, x, y⟩ ∧ (x = (Em.leanB b a && (!Em.leanB a b || punctB b)) ∧ y = (Em.leanB a b && (!Em.leanB b a || punctB a))) := by
    unfold Em.judge
    rw [if_pos hc9]; exact ⟨_, _, rfl, rfl, rfl⟩
  obtain ⟨x, y, hj, hxy⟩ := hj
  rw [hj]
  clear hj
  have hcm : ((l[k].toNat : Int) == 42) = false ∧ ((l[k].toNat : Int) == 95) = true ∧ x = (Em.leanB b a && (!Em.leanB a b || punctB b)) ∧ y = (Em.leanB a b && (!Em.leanB b a || punctB a)) := ⟨h42, h95, hxy⟩
  clear h42 h95 hc9 hxy
  unfold Em.leanB at hcm
  obtain ⟨BA, hBA⟩ : ∃ v, blankB (a : Int) = v := ⟨_, rfl⟩
  obtain ⟨BB, hBB⟩ : ∃ v, blankB (b : Int) = v := ⟨_, rfl⟩
  obtain ⟨PA, hPA⟩ : ∃ v, punctB (a : Int) = v := ⟨_, rfl⟩
  obtain ⟨PB, hPB⟩ : ∃ v, punctB (b : Int) = v := ⟨_, rfl⟩
  rw [hBA, hBB, hPA, hPB] at hcm
  obtain ⟨ch, hch⟩ : ∃ ch, ch = l[k] := ⟨_, rfl⟩
  rw [← hch] at hix hne1 hne2 q1 hcm ⊢
  clear hch
  obtain ⟨T, hT⟩ : ∃ T, T = l.take k := ⟨_, rfl⟩
  have hTl : T.length = k := by rw [hT, List.length_take]; omega
  rw [← hT] at hup hbd
  clear hT
  have hst : Hid (∀ wz : World, Below (w.alloc (.cells #[.int .u8 0, .int .i64 0, .bool false, .bool false] 74)).heap.size (w.alloc (.cells #[.int .u8 0, .int .i64 0, .bool false, .bool false] 74)) wz →
      wz.cell? ⟨w.heap.size, 0, none⟩ = some (.int .u8 0) ∧ wz.cell? ⟨w.heap.size, 1, none⟩ = some (.int .i64 0) ∧ wz.cell? ⟨w.heap.size, 2, none⟩ = some (.bool false) ∧ wz.cell? ⟨w.heap.size, 3, none⟩ = some (.bool false) ∧ (∀ j, wz.frozen? ⟨w.heap.size, j, none⟩ = false) ∧ w.heap.size < wz.heap.size) :=
    Lib.hid fun wz h => by
      obtain ⟨k0, k1, k2, k3, k4⟩ := blk_open h
      have := h.size
      simp at this
      exact ⟨k0, k1, k2, k3, k4, by omega⟩
  have dd1 : decide ((k : Int) < 0) = false := decide_eq_false (by omega)
  have dd2 : decide (((l.length : Nat) : Int) ≤ (k : Int)) = false := decide_eq_false (by omega)
  have dd3 : decide (l.length ≤ k) = false := decide_eq_false (by omega)
  have dd4 : decide ((0 : Int) < (k : Int)) = false := decide_eq_false (by omega)
  have dd5 : decide (0 < k) = false := decide_eq_false (by omega)
  have dd6 : ((l.length : Nat) : Int) ≤ (k : Int) ↔ False := ⟨fun h => by omega, fun h => h.elim⟩
  obtain ⟨g1, g2, hx, hy⟩ := hcm
  replace hx := Lib.hid hx
  replace hy := Lib.hid hy
  go_enter Tryz.func31, Tryz.ntmps31
  go_wp2_with fail
  go_quiet (fail)
  go_wp2_with fail
  refine (q1 _).mono ?_
  rintro e w1 ⟨rfl, rfl⟩
  generalize hW : (w.alloc (.cells #[.int .u8 0, .int .i64 0, .bool false, .bool false] 74)).drewN nq = W
  have hB : Hid (Below (w.alloc (.cells #[.int .u8 0, .int .i64 0, .bool false, .bool false] 74)).heap.size (w.alloc (.cells #[.int .u8 0, .int .i64 0, .bool false, .bool false] 74)) W) := Lib.hid (by rw [← hW]; exact below_drewN (Below.refl _ _) nq)
  clear hW
  go_wp2_with fail
  go_loopw [8] (fun bv wr => ∃ (pos : Nat) (D : List Nat), bv = .int .i32 ((D.getLastD 32 : Nat) : Int) ∧ Hid (wr.heap[W.heap.size]? = some (.stringIter (bs T) pos)) ∧ Hid (D ++ Ru.runes (T.drop pos) = Ru.runes T) ∧ Below W.heap.size W wr)
    (fun _ wr => T.length - wr.iterPos W.heap.size)
  case atStart => exact ⟨0, [], rfl, Lib.hid (iter_new _ _ _ rfl), Lib.hid rfl, ext_alloc _ _⟩
  case round =>
    obtain ⟨pos, D, rfl, hit, hD, hb⟩ := hrel
    have hlt : W.heap.size < wr.heap.size := (Array.getElem?_eq_some_iff.1 hit.out).1
    by_cases hp : pos < T.length
    · obtain ⟨z, m, hm, hv, hd, hD2⟩ := runes_next hp hD.out
      have hnx := run_next_rune hit.out hp hd
      replace hD2 := Lib.hid hD2
      replace hd := Lib.hid hd
      have hit2 := Lib.hid (Lib.iterAt_heap wr W.heap.size (bs T) pos (pos + m) hit.out)
      have hb2 := Lib.below_iterAt hb (k := W.heap.size) (Nat.le_refl _) (bs T) (pos + m)
      have hpos : Hid (wr.iterPos W.heap.size = pos) := Lib.hid (by simp only [World.iterPos, hit.out])
      have hpos2 : Hid ((wr.iterAt W.heap.size (bs T) (pos + m)).iterPos W.heap.size = pos + m) := Lib.hid (by simp only [World.iterPos, hit2.out])
      clear q1 q2 hbi hbo hst hix hup
      go_wp2
      go_roundw
      case rel => exact ⟨pos + m, D ++ [z], by rw [List.getLastD_concat], hit2, hD2, hb2⟩
      case measure => rw [hpos.out, hpos2.out]; omega
    · have hnx := run_next_done hit.out hp
      have hDe := runes_done hp hD.out
      subst hDe
      rw [hbd.out]
      have hb0 := Lib.hid (hB.out.trans (hb.mono hB.out.size))
      replace hb := Lib.hid hb
      clear hD hbd hup
      by_cases hkn : k + n < l.length
      · have hav := hbi hkn
        have q3 := fun w => q2 w hkn hs
        rw [← hav] at q3
        clear hav hbi hbo q2 q1
        go_wp2_with fail
        refine (q3 _).mono ?_
        rintro e w3 ⟨rfl, hb3⟩
        have hb4 := Lib.hid (hb0.out.trans (hb3.mono hb0.out.size))
        clear q3 hb3 hit hb0 hb hB dd1 dd2 dd3 dd4 dd5 dd6
        go_upto_region 11 with fail
        refine kind_left _ _ BA BB PA PB w3 hBA hBB hPA hPB _ _ _ _ _ _ _ _ _ _ _ _ _ _ _ _ _ _ _ _ _ _ _ _ _ _ _ _ _ _ _ _ _ _ _ _ _ _ _ _ _ _ _ _ _ _ _ _ _ _ _ _ _ _ _ _ _ _ _ _ _ _ _ _ _ _ _ _ _ _ _ _ _ _ _ _ _ _ _ _ _ _ _ _ _ _ _ _ _ _ _ _ _ _ _ _ _ _ _ _ _ _ _ _ _ _ _ _ _ _ _ _ _ _ _ _ _ _ _ _ _ _ _ _ _ _ _ _ _ _ _ _ _ _ _ _ _ _ _ _ _ _ _ _ ?_
        intro v78 v79 v80 v81 v82 v83 v84 v85 v86 v87 v88 v89 v90 v91 v92 v93 wq hwq
        rw [hwq]
        clear hwq wq
        go_upto_region 12 with fail
        refine kind_right _ _ BA BB PA PB w3 hBA hBB hPA hPB _ _ _ _ _ _ _ _ _ _ _ _ _ _ _ _ _ _ _ _ _ _ _ _ _ _ _ _ _ _ _ _ _ _ _ _ _ _ _ _ _ _ _ _ _ _ _ _ _ _ _ _ _ _ _ _ _ _ _ _ _ _ _ _ _ _ _ _ _ _ _ _ _ _ _ _ _ _ _ _ _ _ _ _ _ _ _ _ _ _ _ _ _ _ _ _ _ _ _ _ _ _ _ _ _ _ _ _ _ _ _ _ _ _ _ _ _ _ _ _ _ _ _ _ _ _ _ _ _ _ _ _ _ _ _ _ _ _ _ _ _ _ _ _ ?_
        intro v94 v95 v96 v97 v98 v99 v100 v101 v102 v103 v104 v105 v106 v107 v108 v109 wq hwq
        rw [hwq]
        clear hwq wq
        go_upto_region 13 with fail
        refine kind_made l k n _ _ ch w3 hix _ _ _ _ _ _ _ _ _ _ _ _ _ _ _ _ _ _ _ _ _ _ _ _ _ _ _ _ _ _ _ _ _ _ _ _ _ _ _ _ _ _ _ _ _ _ _ _ _ _ _ _ _ _ _ _ _ _ _ _ _ _ _ _ _ _ _ _ _ _ _ _ _ _ _ _ _ _ _ _ _ _ _ _ _ _ _ _ _ _ _ _ _ _ _ _ _ _ _ _ _ _ _ _ _ _ _ _ _ _ _ _ _ _ _ _ _ _ _ _ _ _ _ _ _ _ _ _ _ _ _ _ _ _ _ _ _ _ _ _ _ ?_
        intro v110 v111 v112 v113 v114 v115 v116 w4 hw4
        have hh := Lib.hid (show w4.heap[(w3).heap.size]? = some (.cells #[.int .u8 (ch.toNat : Int), .int .i64 (n : Int), .bool (!BA && (!PA || BB || PB)), .bool (!BB && (!PB || BA || PA))] 74 (0, 0)) from by rw [hw4]; exact heap_alloc_new _ _)
        have hb5 := Lib.hid (show Below (w.alloc (.cells #[.int .u8 0, .int .i64 0, .bool false, .bool false] 74)).heap.size (w.alloc (.cells #[.int .u8 0, .int .i64 0, .bool false, .bool false] 74)) w4 from by rw [hw4]; exact hb4.out.alloc hb4.out.size _)
        have hg1 : w.heap.size < (w3).heap.size := (hst.out _ hb4.out).2.2.2.2.2
        have hg0 := hb4.out.size
        replace ex := hx.out
        replace ey := hy.out
        clear hw4 hx hy
        obtain ⟨y0, y1, y2, y3⟩ := four hh.out
        have yf := Lib.frozen_of_heap hh.out 2
        go_upto_region 15 with fail
        refine kind_opens _ _ PA PB _ _ (w3).heap.size _ w4 hPA hPB y2 yf _ _ _ _ _ _ _ _ _ _ _ _ _ _ _ _ _ _ _ _ _ _ _ _ _ _ _ _ _ _ _ _ _ _ _ _ _ _ _ _ _ _ _ _ _ _ _ _ _ _ _ _ _ _ _ _ _ _ _ _ _ _ _ _ _ _ _ _ _ _ _ _ _ _ _ _ _ _ _ _ _ _ _ _ _ _ _ _ _ _ _ _ _ _ _ _ _ _ _ _ _ _ _ _ _ _ _ _ _ _ _ _ _ _ _ _ _ _ _ _ _ _ _ _ _ _ _ _ _ _ _ _ _ _ _ _ _ _ _ _ _ ?_
        intro v121 v122 v123 v124 v125 v126 v127 v128 v129 v130 w5 hw5
        have hh5 := Lib.hid (show w5.heap[(w3).heap.size]? = some (.cells #[.int .u8 (ch.toNat : Int), .int .i64 (n : Int), .bool ((!BA && (!PA || BB || PB)) && (!(!BB && (!PB || BA || PA)) || PB)), .bool (!BB && (!PB || BA || PA))] 74 (0, 0)) from by rw [hw5]; exact heap_setCell_same _ _ 2 _ _ _ hh.out)
        have hb6 := Lib.hid (show Below _ _ w5 from by rw [hw5]; exact hb5.out.setCell (p := ⟨(w3).heap.size, 2, none⟩) (by simp; omega) _)
        obtain ⟨x0, x1, x2, x3⟩ := four hh5.out
        have xf := Lib.frozen_of_heap hh5.out 3
        clear hw5 y0 y1 y2 y3 yf
        go_upto_region 16 with fail
        refine kind_closes _ _ PA PB _ _ (w3).heap.size _ w5 hPA hPB x3 xf _ _ _ _ _ _ _ _ _ _ _ _ _ _ _ _ _ _ _ _ _ _ _ _ _ _ _ _ _ _ _ _ _ _ _ _ _ _ _ _ _ _ _ _ _ _ _ _ _ _ _ _ _ _ _ _ _ _ _ _ _ _ _ _ _ _ _ _ _ _ _ _ _ _ _ _ _ _ _ _ _ _ _ _ _ _ _ _ _ _ _ _ _ _ _ _ _ _ _ _ _ _ _ _ _ _ _ _ _ _ _ _ _ _ _ _ _ _ _ _ _ _ _ _ _ _ _ _ _ _ _ _ _ _ _ _ _ _ _ _ _ ?_
        intro v131 v132 v133 v134 v135 v136 v137 v138 v139 v140 w6 hw6
        have hh6 := Lib.hid (show w6.heap[(w3).heap.size]? = some (.cells #[.int .u8 (ch.toNat : Int), .int .i64 (n : Int), .bool ((!BA && (!PA || BB || PB)) && (!(!BB && (!PB || BA || PA)) || PB)), .bool ((!BB && (!PB || BA || PA)) && (!(!BA && (!PA || BB || PB)) || PA))] 74 (0, 0)) from by rw [hw6]; exact heap_setCell_same _ _ 3 _ _ _ hh5.out)
        have hb7 := Lib.hid (show Below _ _ w6 from by rw [hw6]; exact hb6.out.setCell (p := ⟨(w3).heap.size, 3, none⟩) (by simp; omega) _)
        clear hw6 x0 x1 x2 x3 xf
        obtain ⟨z0, z1, z2, z3⟩ := four hh6.out
        obtain ⟨k0, k1, k2, k3, k4, k5⟩ := hst.out _ hb7.out
        clear hst
        go_upto_region 17 with fail
        refine kind_last w.heap.size (w3).heap.size k n ch _ _ w6 (by omega) z0 z1 z2 z3 k0 k1 k2 k3 k4 _ _ _ _ _ _ _ _ _ _ _ _ _ _ _ _ _ _ _ _ _ _ _ _ _ _ _ _ _ _ _ _ _ _ _ _ _ _ _ _ _ _ _ _ _ _ _ _ _ _ _ _ _ _ _ _ _ _ _ _ _ _ _ _ _ _ _ _ _ _ _ _ _ _ _ _ _ _ _ _ _ _ _ _ _ _ _ _ _ _ _ _ _ _ _ _ _ _ _ _ _ _ _ _ _ _ _ _ _ _ _ _ _ _ _ _ _ _ _ _ _ _ _ _ _ _ _ _ _ _ _ _ _ _ _ _ _ _ _ _ _ _ ?_
        intro v141 v142 v143 v144 wq hwq
        rw [hwq]
        clear hwq wq z0 z1 z2 z3
        try clear hix
        try clear hne1
        try clear hne2
        try clear hnx
        try clear g1
        try clear g2
        try clear hBA
        try clear hBB
        try clear hPA
        try clear hPB
        try clear hTl
        try clear hlt
        try clear hsz
        try clear hix1
        try clear hpr
        try clear hp
        try clear hkn
        try clear hk1
        try clear hg1
        try clear hg0
        try clear q1
        go_wp2_with fail
        exact bodyPost_ret (v := .tuple #[.agg #[.int .u8 (ch.toNat : Int), .int .i64 (n : Int), .bool ((!BA && (!PA || BB || PB)) && (!(!BB && (!PB || BA || PA)) || PB)), .bool ((!BB && (!PB || BA || PA)) && (!(!BA && (!PA || BB || PB)) || PA))], .int .i64 ((k + n : Nat) : Int), .bool true]) (by rw [results_cell_tmp2 rfl]; go_simp) rfl ⟨by rw [ex, ey]; rfl, blk_done hb7.out _ _ _ _⟩
      · obtain rfl := hbo hkn
        rw [show ((32 : Nat) : Int) = 32 from rfl] at hBA hPA
        have hb4 := hb0
        clear hbi hbo q2 q1 hit hb0 hb hB dd1 dd2 dd3 dd4 dd5 dd6
        go_upto_region 11 with fail
        refine kind_left _ _ BA BB PA PB wr hBA hBB hPA hPB _ _ _ _ _ _ _ _ _ _ _ _ _ _ _ _ _ _ _ _ _ _ _ _ _ _ _ _ _ _ _ _ _ _ _ _ _ _ _ _ _ _ _ _ _ _ _ _ _ _ _ _ _ _ _ _ _ _ _ _ _ _ _ _ _ _ _ _ _ _ _ _ _ _ _ _ _ _ _ _ _ _ _ _ _ _ _ _ _ _ _ _ _ _ _ _ _ _ _ _ _ _ _ _ _ _ _ _ _ _ _ _ _ _ _ _ _ _ _ _ _ _ _ _ _ _ _ _ _ _ _ _ _ _ _ _ _ _ _ _ _ _ _ _ ?_
        intro v78 v79 v80 v81 v82 v83 v84 v85 v86 v87 v88 v89 v90 v91 v92 v93 wq hwq
        rw [hwq]
        clear hwq wq
        go_upto_region 12 with fail
        refine kind_right _ _ BA BB PA PB wr hBA hBB hPA hPB _ _ _ _ _ _ _ _ _ _ _ _ _ _ _ _ _ _ _ _ _ _ _ _ _ _ _ _ _ _ _ _ _ _ _ _ _ _ _ _ _ _ _ _ _ _ _ _ _ _ _ _ _ _ _ _ _ _ _ _ _ _ _ _ _ _ _ _ _ _ _ _ _ _ _ _ _ _ _ _ _ _ _ _ _ _ _ _ _ _ _ _ _ _ _ _ _ _ _ _ _ _ _ _ _ _ _ _ _ _ _ _ _ _ _ _ _ _ _ _ _ _ _ _ _ _ _ _ _ _ _ _ _ _ _ _ _ _ _ _ _ _ _ _ ?_
        intro v94 v95 v96 v97 v98 v99 v100 v101 v102 v103 v104 v105 v106 v107 v108 v109 wq hwq
        rw [hwq]
        clear hwq wq
        go_upto_region 13 with fail
        refine kind_made l k n _ _ ch wr hix _ _ _ _ _ _ _ _ _ _ _ _ _ _ _ _ _ _ _ _ _ _ _ _ _ _ _ _ _ _ _ _ _ _ _ _ _ _ _ _ _ _ _ _ _ _ _ _ _ _ _ _ _ _ _ _ _ _ _ _ _ _ _ _ _ _ _ _ _ _ _ _ _ _ _ _ _ _ _ _ _ _ _ _ _ _ _ _ _ _ _ _ _ _ _ _ _ _ _ _ _ _ _ _ _ _ _ _ _ _ _ _ _ _ _ _ _ _ _ _ _ _ _ _ _ _ _ _ _ _ _ _ _ _ _ _ _ _ _ _ _ ?_
        intro v110 v111 v112 v113 v114 v115 v116 w4 hw4
        have hh := Lib.hid (show w4.heap[(wr).heap.size]? = some (.cells #[.int .u8 (ch.toNat : Int), .int .i64 (n : Int), .bool (!BA && (!PA || BB || PB)), .bool (!BB && (!PB || BA || PA))] 74 (0, 0)) from by rw [hw4]; exact heap_alloc_new _ _)
        have hb5 := Lib.hid (show Below (w.alloc (.cells #[.int .u8 0, .int .i64 0, .bool false, .bool false] 74)).heap.size (w.alloc (.cells #[.int .u8 0, .int .i64 0, .bool false, .bool false] 74)) w4 from by rw [hw4]; exact hb4.out.alloc hb4.out.size _)
        have hg1 : w.heap.size < (wr).heap.size := (hst.out _ hb4.out).2.2.2.2.2
        have hg0 := hb4.out.size
        replace ex := hx.out
        replace ey := hy.out
        clear hw4 hx hy
        obtain ⟨y0, y1, y2, y3⟩ := four hh.out
        have yf := Lib.frozen_of_heap hh.out 2
        go_upto_region 15 with fail
        refine kind_opens _ _ PA PB _ _ (wr).heap.size _ w4 hPA hPB y2 yf _ _ _ _ _ _ _ _ _ _ _ _ _ _ _ _ _ _ _ _ _ _ _ _ _ _ _ _ _ _ _ _ _ _ _ _ _ _ _ _ _ _ _ _ _ _ _ _ _ _ _ _ _ _ _ _ _ _ _ _ _ _ _ _ _ _ _ _ _ _ _ _ _ _ _ _ _ _ _ _ _ _ _ _ _ _ _ _ _ _ _ _ _ _ _ _ _ _ _ _ _ _ _ _ _ _ _ _ _ _ _ _ _ _ _ _ _ _ _ _ _ _ _ _ _ _ _ _ _ _ _ _ _ _ _ _ _ _ _ _ _ ?_
        intro v121 v122 v123 v124 v125 v126 v127 v128 v129 v130 w5 hw5
        have hh5 := Lib.hid (show w5.heap[(wr).heap.size]? = some (.cells #[.int .u8 (ch.toNat : Int), .int .i64 (n : Int), .bool ((!BA && (!PA || BB || PB)) && (!(!BB && (!PB || BA || PA)) || PB)), .bool (!BB && (!PB || BA || PA))] 74 (0, 0)) from by rw [hw5]; exact heap_setCell_same _ _ 2 _ _ _ hh.out)
        have hb6 := Lib.hid (show Below _ _ w5 from by rw [hw5]; exact hb5.out.setCell (p := ⟨(wr).heap.size, 2, none⟩) (by simp; omega) _)
        obtain ⟨x0, x1, x2, x3⟩ := four hh5.out
        have xf := Lib.frozen_of_heap hh5.out 3
        clear hw5 y0 y1 y2 y3 yf
        go_upto_region 16 with fail
        refine kind_closes _ _ PA PB _ _ (wr).heap.size _ w5 hPA hPB x3 xf _ _ _ _ _ _ _ _ _ _ _ _ _ _ _ _ _ _ _ _ _ _ _ _ _ _ _ _ _ _ _ _ _ _ _ _ _ _ _ _ _ _ _ _ _ _ _ _ _ _ _ _ _ _ _ _ _ _ _ _ _ _ _ _ _ _ _ _ _ _ _ _ _ _ _ _ _ _ _ _ _ _ _ _ _ _ _ _ _ _ _ _ _ _ _ _ _ _ _ _ _ _ _ _ _ _ _ _ _ _ _ _ _ _ _ _ _ _ _ _ _ _ _ _ _ _ _ _ _ _ _ _ _ _ _ _ _ _ _ _ _ ?_
        intro v131 v132 v133 v134 v135 v136 v137 v138 v139 v140 w6 hw6
        have hh6 := Lib.hid (show w6.heap[(wr).heap.size]? = some (.cells #[.int .u8 (ch.toNat : Int), .int .i64 (n : Int), .bool ((!BA && (!PA || BB || PB)) && (!(!BB && (!PB || BA || PA)) || PB)), .bool ((!BB && (!PB || BA || PA)) && (!(!BA && (!PA || BB || PB)) || PA))] 74 (0, 0)) from by rw [hw6]; exact heap_setCell_same _ _ 3 _ _ _ hh5.out)
        have hb7 := Lib.hid (show Below _ _ w6 from by rw [hw6]; exact hb6.out.setCell (p := ⟨(wr).heap.size, 3, none⟩) (by simp; omega) _)
        clear hw6 x0 x1 x2 x3 xf
        obtain ⟨z0, z1, z2, z3⟩ := four hh6.out
        obtain ⟨k0, k1, k2, k3, k4, k5⟩ := hst.out _ hb7.out
        clear hst
        go_upto_region 17 with fail
        refine kind_last w.heap.size (wr).heap.size k n ch _ _ w6 (by omega) z0 z1 z2 z3 k0 k1 k2 k3 k4 _ _ _ _ _ _ _ _ _ _ _ _ _ _ _ _ _ _ _ _ _ _ _ _ _ _ _ _ _ _ _ _ _ _ _ _ _ _ _ _ _ _ _ _ _ _ _ _ _ _ _ _ _ _ _ _ _ _ _ _ _ _ _ _ _ _ _ _ _ _ _ _ _ _ _ _ _ _ _ _ _ _ _ _ _ _ _ _ _ _ _ _ _ _ _ _ _ _ _ _ _ _ _ _ _ _ _ _ _ _ _ _ _ _ _ _ _ _ _ _ _ _ _ _ _ _ _ _ _ _ _ _ _ _ _ _ _ _ _ _ _ _ ?_
        intro v141 v142 v143 v144 wq hwq
        rw [hwq]
        clear hwq wq z0 z1 z2 z3
        try clear hix
        try clear hne1
        try clear hne2
        try clear hnx
        try clear g1
        try clear g2
        try clear hBA
        try clear hBB
        try clear hPA
        try clear hPB
        try clear hTl
        try clear hlt
        try clear hsz
        try clear hix1
        try clear hpr
        try clear hp
        try clear hkn
        try clear hk1
        try clear hg1
        try clear hg0
        try clear q1
        go_wp2_with fail
        exact bodyPost_ret (v := .tuple #[.agg #[.int .u8 (ch.toNat : Int), .int .i64 (n : Int), .bool ((!BA && (!PA || BB || PB)) && (!(!BB && (!PB || BA || PA)) || PB)), .bool ((!BB && (!PB || BA || PA)) && (!(!BA && (!PA || BB || PB)) || PA))], .int .i64 ((k + n : Nat) : Int), .bool true]) (by rw [results_cell_tmp2 rfl]; go_simp) rfl ⟨by rw [ex, ey]; rfl, blk_done hb7.out _ _ _ _⟩
end Go.Proofs.YtkfhkfagmokjpaaGreatDoor

namespace Go.Proofs.YtkfhkfagmokjpaaGreatDoor
open Go.RowKit


set_option maxHeartbeats 8000000 in
set_option maxRecDepth 100000 in
theorem rkind_on_p42 (l : List UInt8) (k : Nat) (hk : k < l.length) (hs : l.length ≤ 1000000000000) (hsg : ((l[k].toNat : Int) == 42) = true ∧ ((l[k].toNat : Int) == 95) = false ∧ l[k] ≠ 95) (hk0 : (0 : Int) < (k : Int)) (hk1 : k - 1 < l.length) (hpr : ((l[k - 1].toNat : Int) == (l[k].toNat : Int)) = false) (w : World) :
    Calls Tryz.prog 31 #[.string (bs l), .int .i64 (k : Int)] w fun e w' => e = .returned (kindV (some (Em.judge l[k] (Fn.run l[k] (l.drop k)) (Em.ahead l k) (Em.behind l (k + Fn.run l[k] (l.drop k))), k + Fn.run l[k] (l.drop k)))) ∧ Below w.heap.size w w' := by
  have hsz := bs_size l
  have hix := run_byte hk
  have hix1 := run_byte_at (i := k - 1) (v := (k : Int) - 1) (S := l) hk1 (by omega)
  have hup := run_upto (S := l) (i := k) (by omega)
  have hne1 : ((l[k].toNat : Int) != 42) = !((l[k].toNat : Int) == 42) := rfl
  have hne2 : ((l[k].toNat : Int) != 95) = !((l[k].toNat : Int) == 95) := rfl
  have hin := Em.runs_in hk l[k]
  have q1 := rrun_any l k l[k]
  replace q1 := fun w => q1 w (by omega) (by omega)
  have q2 := fun w => rone_any l (k + Fn.run l[k] (l.drop k)) (w := w)
  have hbi : k + Fn.run l[k] (l.drop k) < l.length → Em.behind l (k + Fn.run l[k] (l.drop k)) = (Lib.decodeL (l.drop (k + Fn.run l[k] (l.drop k)))).1 := Em.behind_in
  have hbo : ¬ k + Fn.run l[k] (l.drop k) < l.length → Em.behind l (k + Fn.run l[k] (l.drop k)) = 32 := Em.behind_out
  obtain ⟨a, ha⟩ : ∃ a, a = Em.behind l (k + Fn.run l[k] (l.drop k)) := ⟨_, rfl⟩
  obtain ⟨b, hb⟩ : ∃ b, b = Em.ahead l k := ⟨_, rfl⟩
  rw [← ha] at hbi hbo
  rw [← ha, ← hb]
  clear ha
  have hbd : Hid ((Ru.runes (l.take k)).getLastD 32 = b) := Lib.hid hb.symm
  clear hb
  obtain ⟨n, hn⟩ : ∃ n, n = Fn.run l[k] (l.drop k) := ⟨_, rfl⟩
  rw [← hn] at hin q1 q2 hbi hbo ⊢
  clear hn
  obtain ⟨h42, h95, hc9⟩ := hsg
  have hj : ∃ x y, Em.judge l[k] n b a = ⟨l[k], n, x, y⟩ ∧ (x = Em.leanB b a ∧ y = Em.leanB a b) := by
    unfold Em.judge
    rw [if_neg hc9]; exact ⟨_, _, rfl, rfl, rfl⟩
  obtain ⟨x, y, hj, hxy⟩ := hj
  rw [hj]
  clear hj
  have hcm : ((l[k].toNat : Int) == 42) = true ∧ ((l[k].toNat : Int) == 95) = false ∧ x = Em.leanB b a ∧ y = Em.leanB a b := ⟨h42, h95, hxy⟩
  clear h42 h95 hc9 hxy
  unfold Em.leanB at hcm
  obtain ⟨BA, hBA⟩ : ∃ v, blankB (a : Int) = v := ⟨_, rfl⟩
  obtain ⟨BB, hBB⟩ : ∃ v, blankB (b : Int) = v := ⟨_, rfl⟩
  obtain ⟨PA, hPA⟩ : ∃ v, punctB (a : Int) = v := ⟨_, rfl⟩
  obtain ⟨PB, hPB⟩ : ∃ v, punctB (b : Int) = v := ⟨_, rfl⟩
  rw [hBA, hBB, hPA, hPB] at hcm
  obtain ⟨ch, hch⟩ : ∃ ch, ch = l[k] := ⟨_, rfl⟩
  rw [← hch] at hix hne1 hne2 q1 hcm hpr ⊢
  clear hch
  obtain ⟨T, hT⟩ : ∃ T, T = l.take k := ⟨_, rfl⟩
  have hTl : T.length = k := by rw [hT, List.length_take]; omega
  rw [← hT] at hup hbd
  clear hT
  have hst : Hid (∀ wz : World, Below (w.alloc (.cells #[.int .u8 0, .int .i64 0, .bool false, .bool false] 74)).heap.size (w.alloc (.cells #[.int .u8 0, .int .i64 0, .bool false, .bool false] 74)) wz →
      wz.cell? ⟨w.heap.size, 0, none⟩ = some (.int .u8 0) ∧ wz.cell? ⟨w.heap.size, 1, none⟩ = some (.int .i64 0) ∧ wz.cell? ⟨w.heap.size, 2, none⟩ = some (.bool false) ∧ wz.cell? ⟨w.heap.size, 3, none⟩ = some (.bool false) ∧ (∀ j, wz.frozen? ⟨w.heap.size, j, none⟩ = false) ∧ w.heap.size < wz.heap.size) :=
    Lib.hid fun wz h => by
      obtain ⟨k0, k1, k2, k3, k4⟩ := blk_open h
      have := h.size
      simp at this
      exact ⟨k0, k1, k2, k3, k4, by omega⟩
  have dd1 : decide ((k : Int) < 0) = false := decide_eq_false (by omega)
  have dd2 : decide (((l.length : Nat) : Int) ≤ (k : Int)) = false := decide_eq_false (by omega)
  have dd3 : decide (l.length ≤ k) = false := decide_eq_false (by omega)
  have dd4 : decide ((0 : Int) < (k : Int)) = true := decide_eq_true (by omega)
  have dd5 : decide (0 < k) = true := decide_eq_true (by omega)
  have dd6 : ((l.length : Nat) : Int) ≤ (k : Int) ↔ False := ⟨fun h => by omega, fun h => h.elim⟩
  obtain ⟨g1, g2, hx, hy⟩ := hcm
  replace hx := Lib.hid hx
  replace hy := Lib.hid hy
  go_enter Tryz.func31, Tryz.ntmps31
  go_wp2_with fail
  go_quiet (fail)
  go_wp2_with fail
  refine (q1 _).mono ?_
  rintro e w1 ⟨rfl, rfl⟩
  generalize hW : (w.alloc (.cells #[.int .u8 0, .int .i64 0, .bool false, .bool false] 74)).drewN nq = W
  have hB : Hid (Below (w.alloc (.cells #[.int .u8 0, .int .i64 0, .bool false, .bool false] 74)).heap.size (w.alloc (.cells #[.int .u8 0, .int .i64 0, .bool false, .bool false] 74)) W) := Lib.hid (by rw [← hW]; exact below_drewN (Below.refl _ _) nq)
  clear hW
  go_wp2_with fail
  go_loopw [8] (fun bv wr => ∃ (pos : Nat) (D : List Nat), bv = .int .i32 ((D.getLastD 32 : Nat) : Int) ∧ Hid (wr.heap[W.heap.size]? = some (.stringIter (bs T) pos)) ∧ Hid (D ++ Ru.runes (T.drop pos) = Ru.runes T) ∧ Below W.heap.size W wr)
    (fun _ wr => T.length - wr.iterPos W.heap.size)
  case atStart => exact ⟨0, [], rfl, Lib.hid (iter_new _ _ _ rfl), Lib.hid rfl, ext_alloc _ _⟩
  case round =>
    obtain ⟨pos, D, rfl, hit, hD, hb⟩ := hrel
    have hlt : W.heap.size < wr.heap.size := (Array.getElem?_eq_some_iff.1 hit.out).1
    by_cases hp : pos < T.length
    · obtain ⟨z, m, hm, hv, hd, hD2⟩ := runes_next hp hD.out
      have hnx := run_next_rune hit.out hp hd
      replace hD2 := Lib.hid hD2
      replace hd := Lib.hid hd
      have hit2 := Lib.hid (Lib.iterAt_heap wr W.heap.size (bs T) pos (pos + m) hit.out)
      have hb2 := Lib.below_iterAt hb (k := W.heap.size) (Nat.le_refl _) (bs T) (pos + m)
      have hpos : Hid (wr.iterPos W.heap.size = pos) := Lib.hid (by simp only [World.iterPos, hit.out])
      have hpos2 : Hid ((wr.iterAt W.heap.size (bs T) (pos + m)).iterPos W.heap.size = pos + m) := Lib.hid (by simp only [World.iterPos, hit2.out])
      clear q1 q2 hbi hbo hst hix hup
      go_wp2
      go_roundw
      case rel => exact ⟨pos + m, D ++ [z], by rw [List.getLastD_concat], hit2, hD2, hb2⟩
      case measure => rw [hpos.out, hpos2.out]; omega
    · have hnx := run_next_done hit.out hp
      have hDe := runes_done hp hD.out
      subst hDe
      rw [hbd.out]
      have hb0 := Lib.hid (hB.out.trans (hb.mono hB.out.size))
      replace hb := Lib.hid hb
      clear hD hbd hup
      by_cases hkn : k + n < l.length
      · have hav := hbi hkn
        have q3 := fun w => q2 w hkn hs
        rw [← hav] at q3
        clear hav hbi hbo q2 q1
        go_wp2_with fail
        refine (q3 _).mono ?_
        rintro e w3 ⟨rfl, hb3⟩
        have hb4 := Lib.hid (hb0.out.trans (hb3.mono hb0.out.size))
        clear q3 hb3 hit hb0 hb hB dd1 dd2 dd3 dd4 dd5 dd6
        go_upto_region 11 with fail
        refine kind_left _ _ BA BB PA PB w3 hBA hBB hPA hPB _ _ _ _ _ _ _ _ _ _ _ _ _ _ _ _ _ _ _ _ _ _ _ _ _ _ _ _ _ _ _ _ _ _ _ _ _ _ _ _ _ _ _ _ _ _ _ _ _ _ _ _ _ _ _ _ _ _ _ _ _ _ _ _ _ _ _ _ _ _ _ _ _ _ _ _ _ _ _ _ _ _ _ _ _ _ _ _ _ _ _ _ _ _ _ _ _ _ _ _ _ _ _ _ _ _ _ _ _ _ _ _ _ _ _ _ _ _ _ _ _ _ _ _ _ _ _ _ _ _ _ _ _ _ _ _ _ _ _ _ _ _ _ _ ?_
        intro v78 v79 v80 v81 v82 v83 v84 v85 v86 v87 v88 v89 v90 v91 v92 v93 wq hwq
        rw [hwq]
        clear hwq wq
        go_upto_region 12 with fail
        refine kind_right _ _ BA BB PA PB w3 hBA hBB hPA hPB _ _ _ _ _ _ _ _ _ _ _ _ _ _ _ _ _ _ _ _ _ _ _ _ _ _ _ _ _ _ _ _ _ _ _ _ _ _ _ _ _ _ _ _ _ _ _ _ _ _ _ _ _ _ _ _ _ _ _ _ _ _ _ _ _ _ _ _ _ _ _ _ _ _ _ _ _ _ _ _ _ _ _ _ _ _ _ _ _ _ _ _ _ _ _ _ _ _ _ _ _ _ _ _ _ _ _ _ _ _ _ _ _ _ _ _ _ _ _ _ _ _ _ _ _ _ _ _ _ _ _ _ _ _ _ _ _ _ _ _ _ _ _ _ ?_
        intro v94 v95 v96 v97 v98 v99 v100 v101 v102 v103 v104 v105 v106 v107 v108 v109 wq hwq
        rw [hwq]
        clear hwq wq
        go_upto_region 13 with fail
        refine kind_made l k n _ _ ch w3 hix _ _ _ _ _ _ _ _ _ _ _ _ _ _ _ _ _ _ _ _ _ _ _ _ _ _ _ _ _ _ _ _ _ _ _ _ _ _ _ _ _ _ _ _ _ _ _ _ _ _ _ _ _ _ _ _ _ _ _ _ _ _ _ _ _ _ _ _ _ _ _ _ _ _ _ _ _ _ _ _ _ _ _ _ _ _ _ _ _ _ _ _ _ _ _ _ _ _ _ _ _ _ _ _ _ _ _ _ _ _ _ _ _ _ _ _ _ _ _ _ _ _ _ _ _ _ _ _ _ _ _ _ _ _ _ _ _ _ _ _ _ ?_
        intro v110 v111 v112 v113 v114 v115 v116 w4 hw4
        have hh := Lib.hid (show w4.heap[(w3).heap.size]? = some (.cells #[.int .u8 (ch.toNat : Int), .int .i64 (n : Int), .bool (!BA && (!PA || BB || PB)), .bool (!BB && (!PB || BA || PA))] 74 (0, 0)) from by rw [hw4]; exact heap_alloc_new _ _)
        have hb5 := Lib.hid (show Below (w.alloc (.cells #[.int .u8 0, .int .i64 0, .bool false, .bool false] 74)).heap.size (w.alloc (.cells #[.int .u8 0, .int .i64 0, .bool false, .bool false] 74)) w4 from by rw [hw4]; exact hb4.out.alloc hb4.out.size _)
        have hg1 : w.heap.size < (w3).heap.size := (hst.out _ hb4.out).2.2.2.2.2
        have hg0 := hb4.out.size
        replace ex := hx.out
        replace ey := hy.out
        clear hw4 hx hy
        obtain ⟨z0, z1, z2, z3⟩ := four hh.out
        obtain ⟨k0, k1, k2, k3, k4, k5⟩ := hst.out _ hb5.out
        clear hst
        go_upto_region 17 with fail
        refine kind_last w.heap.size (w3).heap.size k n ch _ _ w4 (by omega) z0 z1 z2 z3 k0 k1 k2 k3 k4 _ _ _ _ _ _ _ _ _ _ _ _ _ _ _ _ _ _ _ _ _ _ _ _ _ _ _ _ _ _ _ _ _ _ _ _ _ _ _ _ _ _ _ _ _ _ _ _ _ _ _ _ _ _ _ _ _ _ _ _ _ _ _ _ _ _ _ _ _ _ _ _ _ _ _ _ _ _ _ _ _ _ _ _ _ _ _ _ _ _ _ _ _ _ _ _ _ _ _ _ _ _ _ _ _ _ _ _ _ _ _ _ _ _ _ _ _ _ _ _ _ _ _ _ _ _ _ _ _ _ _ _ _ _ _ _ _ _ _ _ _ _ ?_
        intro v141 v142 v143 v144 wq hwq
        rw [hwq]
        clear hwq wq z0 z1 z2 z3
        try clear hix
        try clear hne1
        try clear hne2
        try clear hnx
        try clear g1
        try clear g2
        try clear hBA
        try clear hBB
        try clear hPA
        try clear hPB
        try clear hTl
        try clear hlt
        try clear hsz
        try clear hix1
        try clear hpr
        try clear hp
        try clear hkn
        try clear hk1
        try clear hg1
        try clear hg0
        try clear q1
        go_wp2_with fail
        exact bodyPost_ret (v := .tuple #[.agg #[.int .u8 (ch.toNat : Int), .int .i64 (n : Int), .bool (!BA && (!PA || BB || PB)), .bool (!BB && (!PB || BA || PA))], .int .i64 ((k + n : Nat) : Int), .bool true]) (by rw [results_cell_tmp2 rfl]; go_simp) rfl ⟨by rw [ex, ey]; rfl, blk_done hb5.out _ _ _ _⟩
      · obtain rfl := hbo hkn
        rw [show ((32 : Nat) : Int) = 32 from rfl] at hBA hPA
        have hb4 := hb0
        clear hbi hbo q2 q1 hit hb0 hb hB dd1 dd2 dd3 dd4 dd5 dd6
        go_upto_region 11 with fail
        refine kind_left _ _ BA BB PA PB wr hBA hBB hPA hPB _ _ _ _ _ _ _ _ _ _ _ _ _ _ _ _ _ _ _ _ _ _ _ _ _ _ _ _ _ _ _ _ _ _ _ _ _ _ _ _ _ _ _ _ _ _ _ _ _ _ _ _ _ _ _ _ _ _ _ _ _ _ _ _ _ _ _ _ _ _ _ _ _ _ _ _ _ _ _ _ _ _ _ _ _ _ _ _ _ _ _ _ _ _ _ _ _ _ _ _ _ _ _ _ _ _ _ _ _ _ _ _ _ _ _ _ _ _ _ _ _ _ _ _ _ _ _ _ _ _ _ _ _ _ _ _ _ _ _ _ _ _ _ _ ?_
        intro v78 v79 v80 v81 v82 v83 v84 v85 v86 v87 v88 v89 v90 v91 v92 v93 wq hwq
        rw [hwq]
        clear hwq wq
        go_upto_region 12 with fail
        refine kind_right _ _ BA BB PA PB wr hBA hBB hPA hPB _ _ _ _ _ _ _ _ _ _ _ _ _ _ _ _ _ _ _ _ _ _ _ _ _ _ _ _ _ _ _ _ _ _ _ _ _ _ _ _ _ _ _ _ _ _ _ _ _ _ _ _ _ _ _ _ _ _ _ _ _ _ _ _ _ _ _ _ _ _ _ _ _ _ _ _ _ _ _ _ _ _ _ _ _ _ _ _ _ _ _ _ _ _ _ _ _ _ _ _ _ _ _ _ _ _ _ _ _ _ _ _ _ _ _ _ _ _ _ _ _ _ _ _ _ _ _ _ _ _ _ _ _ _ _ _ _ _ _ _ _ _ _ _ ?_
        intro v94 v95 v96 v97 v98 v99 v100 v101 v102 v103 v104 v105 v106 v107 v108 v109 wq hwq
        rw [hwq]
        clear hwq wq
        go_upto_region 13 with fail
        refine kind_made l k n _ _ ch wr hix _ _ _ _ _ _ _ _ _ _ _ _ _ _ _ _ _ _ _ _ _ _ _ _ _ _ _ _ _ _ _ _ _ _ _ _ _ _ _ _ _ _ _ _ _ _ _ _ _ _ _ _ _ _ _ _ _ _ _ _ _ _ _ _ _ _ _ _ _ _ _ _ _ _ _ _ _ _ _ _ _ _ _ _ _ _ _ _ _ _ _ _ _ _ _ _ _ _ _ _ _ _ _ _ _ _ _ _ _ _ _ _ _ _ _ _ _ _ _ _ _ _ _ _ _ _ _ _ _ _ _ _ _ _ _ _ _ _ _ _ _ ?_
        intro v110 v111 v112 v113 v114 v115 v116 w4 hw4
        have hh := Lib.hid (show w4.heap[(wr).heap.size]? = some (.cells #[.int .u8 (ch.toNat : Int), .int .i64 (n : Int), .bool (!BA && (!PA || BB || PB)), .bool (!BB && (!PB || BA || PA))] 74 (0, 0)) from by rw [hw4]; exact heap_alloc_new _ _)
        have hb5 := Lib.hid (show Below (w.alloc (.cells #[.int .u8 0, .int .i64 0, .bool false, .bool false] 74)).heap.size (w.alloc (.cells #[.int .u8 0, .int .i64 0, .bool false, .bool false] 74)) w4 from by rw [hw4]; exact hb4.out.alloc hb4.out.size _)
        have hg1 : w.heap.size < (wr).heap.size := (hst.out _ hb4.out).2.2.2.2.2
        have hg0 := hb4.out.size
        replace ex := hx.out
        replace ey := hy.out
        clear hw4 hx hy
        obtain ⟨z0, z1, z2, z3⟩ := four hh.out
        obtain ⟨k0, k1, k2, k3, k4, k5⟩ := hst.out _ hb5.out
        clear hst
        go_upto_region 17 with fail
        refine kind_last w.heap.size (wr).heap.size k n ch _ _ w4 (by omega) z0 z1 z2 z3 k0 k1 k2 k3 k4 _ _ _ _ _ _ _ _ _ _ _ _ _ _ _ _ _ _ _ _ _ _ _ _ _ _ _ _ _ _ _ _ _ _ _ _ _ _ _ _ _ _ _ _ _ _ _ _ _ _ _ _ _ _ _ _ _ _ _ _ _ _ _ _ _ _ _ _ _ _ _ _ _ _ _ _ _ _ _ _ _ _ _ _ _ _ _ _ _ _ _ _ _ _ _ _ _ _ _ _ _ _ _ _ _ _ _ _ _ _ _ _ _ _ _ _ _ _ _ _ _ _ _ _ _ _ _ _ _ _ _ _ _ _ _ _ _ _ _ _ _ _ ?_
        intro v141 v142 v143 v144 wq hwq
        rw [hwq]
        clear hwq wq z0 z1 z2 z3
        try clear hix
        try clear hne1
        try clear hne2
        try clear hnx
        try clear g1
        try clear g2
        try clear hBA
        try clear hBB
        try clear hPA
        try clear hPB
        try clear hTl
        try clear hlt
        try clear hsz
        try clear hix1
        try clear hpr
        try clear hp
        try clear hkn
        try clear hk1
        try clear hg1
        try clear hg0
        try clear q1
        go_wp2_with fail
        exact bodyPost_ret (v := .tuple #[.agg #[.int .u8 (ch.toNat : Int), .int .i64 (n : Int), .bool (!BA && (!PA || BB || PB)), .bool (!BB && (!PB || BA || PA))], .int .i64 ((k + n : Nat) : Int), .bool true]) (by rw [results_cell_tmp2 rfl]; go_simp) rfl ⟨by rw [ex, ey]; rfl, blk_done hb5.out _ _ _ _⟩
end Go.Proofs.YtkfhkfagmokjpaaGreatDoor
