/- A range over a text: what is handed over at a place, and what is left behind it. The document's own runes of a text; runes made a text. What is read once and for all, and what is folded: lists of runes, by no program. The document's own text of bytes: nought as U+FFFD. Chapter 7's runs, of the mathematics alone. -/
import Derived.Test.YtmbcddehacfpgaaDoorMr01
import Derived.Test.YtmbcddehacfpgaaDoorMr02
import Derived.Laws.Cover4
import Derived.Lib.OthersKept
import Derived.Laws.OwnMore
import Derived.KernelRfl
namespace Go.Proofs.YtmbcddehacfpgaaDoor
open Go.RowKit

/-- runes as cells -/
def rcells (X : List Nat) : List Value := X.map fun x : Nat => .int .i32 (x : Int)
theorem rcells_one (l : List Nat) : ∀ u ∈ rcells l, u.oneCell' = true := by
  intro u hu; simp only [rcells, List.mem_map] at hu; obtain ⟨_, _, rfl⟩ := hu; rfl
theorem rcells_len (l : List Nat) : (rcells l).length = l.length := by simp [rcells]

/-- what 'next' hands over at a place of a text, and what is left behind it -/
theorem runes_next {l : List UInt8} {pos : Nat} (h : pos < l.length) {D : List Nat} (hD : D ++ Ru.runes (l.drop pos) = Ru.runes l) :
    ∃ x k : Nat, 1 ≤ k ∧ Ru.vr x ∧ Utf8.decode (bs l) pos = (x, k) ∧ (D ++ [x]) ++ Ru.runes (l.drop (pos + k)) = Ru.runes l := by
  have hd := decodeL_drop' l pos
  refine ⟨(Utf8.decode (bs l) pos).1, (Utf8.decode (bs l) pos).2, ?_, ?_, rfl, ?_⟩
  · rw [← hd]; exact Lib.decodeL_width _
  · rw [← hd]; exact Ru.decodeL_vr _
  · rw [← hD, Ru.runes_at h, List.append_assoc]; rfl
where decodeL_drop' (l : List UInt8) (pos : Nat) : Lib.decodeL (l.drop pos) = Utf8.decode (bs l) pos := by
        have := Lib.decodeL_drop (bs l) pos
        simpa [bs] using this

theorem run_next_rune {w : World} {k : Nat} {l : List UInt8} {pos x n : Nat} (hk : w.heap[k]? = some (.stringIter (bs l) pos)) (h : pos < l.length) (hd : Utf8.decode (bs l) pos = (x, n)) (ty : TypeId) :
    (Instr.next (.pointer (some ⟨k, 0, none⟩)) true ty).run Tryd.prog w = .ok (.tuple #[.bool true, .int .i64 pos, .int .i32 (x : Int)]) (w.iterAt k (bs l) (pos + n)) := by
  rw [Lib.run_next_any_at w k (bs l) pos ty hk (by rw [bs_size]; exact h), hd]
theorem run_next_done {w : World} {k : Nat} {l : List UInt8} {pos : Nat} (hk : w.heap[k]? = some (.stringIter (bs l) pos)) (h : ¬ pos < l.length) (ty : TypeId) :
    (Instr.next (.pointer (some ⟨k, 0, none⟩)) true ty).run Tryd.prog w = .ok (.tuple #[.bool false]) w :=
  Lib.run_next_end_at w k (bs l) pos ty hk (by rw [bs_size]; exact h)
theorem runes_done {l : List UInt8} {pos : Nat} (h : ¬ pos < l.length) {D : List Nat} (hD : D ++ Ru.runes (l.drop pos) = Ru.runes l) : D = Ru.runes l := by
  rw [List.drop_eq_nil_of_le (by omega), Ru.runes_nil, List.append_nil] at hD; exact hD
theorem runes_part {l : List UInt8} {pos : Nat} {D : List Nat} (hD : D ++ Ru.runes (l.drop pos) = Ru.runes l) : D.length ≤ l.length := by
  have h1 := congrArg List.length hD
  have h2 := Ru.runes_len l
  rw [List.length_append] at h1; omega
theorem runes_part_vr {l : List UInt8} {pos : Nat} {D : List Nat} (hD : D ++ Ru.runes (l.drop pos) = Ru.runes l) : ∀ x ∈ D, Ru.vr x := by
  intro x hx; refine Ru.runes_vr l x ?_; rw [← hD]; simp [hx]
/-- the iterator of a range that is made last -/
theorem iter_new (w : World) (l : List UInt8) (o : Obj) (ho : o = .stringIter (bs l) 0) : (w.alloc o).heap[w.heap.size]? = some (.stringIter (bs l) 0) := by
  subst ho; exact heap_alloc_new w _

theorem own_iterAt {w : World} {base : Nat} {e : TypeId} {size n : Nat} {v : Value} {xs : List Value} (h : w.ownsRow base e size v n xs) {k : Nat} (hk : k < base) (s : ByteArray) (pos : Nat) : (w.iterAt k s pos).ownsRow base e size v n xs := by
  refine ⟨h.1, ?_⟩
  rcases h.2 with hn | ⟨g, cap, cur, rfl, hbg, hgg, rest⟩
  · exact .inl hn
  · exact .inr ⟨g, cap, cur, rfl, hbg, (Lib.iterAt_other w k g s pos (by omega)).trans hgg, rest⟩
theorem rune_at {l : List UInt8} {pos : Nat} (h : pos < l.length) : ∃ x k : Nat, 1 ≤ k ∧ pos + k ≤ l.length ∧ Utf8.decode (bs l) pos = (x, k) ∧ Ru.runes (l.drop pos) = x :: Ru.runes (l.drop (pos + k)) := by
  have hd := runes_next.decodeL_drop' l pos
  have hne : l.drop pos ≠ [] := by intro h0; have := congrArg List.length h0; rw [List.length_drop] at this; simp at this; omega
  have hle := (Ru.rune_bytes hne).2.1
  rw [hd, List.length_drop] at hle
  exact ⟨(Utf8.decode (bs l) pos).1, (Utf8.decode (bs l) pos).2, by rw [← hd]; exact Lib.decodeL_width _, by omega, rfl, Ru.runes_at h⟩
end Go.Proofs.YtmbcddehacfpgaaDoor

namespace Go.Proofs.YtmbcddehacfpgaaDoor
open Go.RowKit

theorem runesBytes_enc (X : List Nat) : runesBytes (X.map fun x : Nat => (x : Int)) = bs (Ru.enc X) := by
  have : ∀ (X : List Nat) (s : List UInt8), (X.map fun x : Nat => (x : Int)).foldl (fun r n => r ++ Utf8.encode n) (bs s) = bs (s ++ Ru.enc X) := by
    intro X
    induction X with
    | nil => intro s; simp [Ru.enc_nil]
    | cons x X ih =>
      intro s
      have he : Utf8.encode (x : Int) = bs (Lib.encodeRune (x : Int)) := Ru.encode_eq _
      rw [List.map_cons, List.foldl_cons, he, bs_append, ih, Ru.enc_cons, List.append_assoc]
  exact this X []

/-- runes made a text -/
theorem run_runes {P : Program} {w : World} {B n c : Nat} {A : Option Addr} {X : List Nat} (h : Row w B 1 A n (rcells X)) (src e dst : TypeId) (hs : P.underlying src = some (.slice e)) (he : P.underlying e = some (.int .i32)) (hd : P.underlying dst = some .string) :
    (convert src dst (.slice A n c)).run P w = .ok (.string (bs (Ru.enc X))) w := by
  have hn : X.length = n := by have := h.1; simpa [rcells] using this
  rcases A with _ | ad
  · have h0 : n = 0 := by
      rcases Nat.eq_zero_or_pos n with h0 | h0
      · exact h0
      · obtain ⟨b, o, e, _⟩ := h.2 h0; cases e
    subst h0
    have : X = [] := List.eq_nil_of_length_eq_zero hn
    subst this
    rw [run_convert_runes_nil w src dst e 0 c hs he hd]
    rfl
  · rw [run_convert_runes w src dst e ad n c (X.map fun x : Nat => (x : Int)) (by simp; omega) hs he hd ?_]
    · rw [List.take_of_length_le (by simp; omega), runesBytes_enc]
    · intro j hj
      have hj' : j < X.length := by simpa using hj
      obtain ⟨b, o, ha, _, hc⟩ := h.2 (by omega)
      cases ha
      have := hc j (.int .i32 (X[j] : Int)) (by simp [rcells, List.getElem?_eq_getElem hj'])
      have ea : (⟨b, o, none⟩ : Addr).add j = ⟨b, o + j, none⟩ := by unfold Addr.add; split <;> simp_all
      rw [ea, this]
      simp [List.getD, List.getElem?_eq_getElem hj']
end Go.Proofs.YtmbcddehacfpgaaDoor

namespace Go.Proofs.YtmbcddehacfpgaaDoor.Ru
open Go.Lib

/-- 0 is read as U+FFFD -/
def zr (x : Nat) : Nat := if x = 0 then 65533 else x
def textR (l : List UInt8) : List Nat := (runes l).map zr
def text (l : List UInt8) : List UInt8 := enc (textR l)
theorem zr_zr (x : Nat) : zr (zr x) = zr x := by unfold zr; split <;> simp_all
theorem zr_vr {x : Nat} (h : vr x) : vr (zr x) := by unfold zr vr at *; split <;> omega
theorem zr_ne (x : Nat) : zr x ≠ 0 := by unfold zr; split <;> omega
theorem zr_id {x : Nat} (h : x ≠ 0) : zr x = x := by unfold zr; rw [if_neg h]
theorem map_zr_vr {X : List Nat} (h : ∀ x ∈ X, vr x) : ∀ x ∈ X.map zr, vr x := by
  intro x hx; obtain ⟨y, hy, rfl⟩ := List.mem_map.1 hx; exact zr_vr (h y hy)
theorem textR_vr (l : List UInt8) : ∀ x ∈ textR l, vr x := map_zr_vr (runes_vr l)
theorem map_zr_id {X : List Nat} (h : ∀ x ∈ X, x ≠ 0) : X.map zr = X := by
  induction X with
  | nil => rfl
  | cons x X ih => rw [List.map_cons, zr_id (h x (by simp)), ih fun y hy => h y (by simp [hy])]
theorem textR_ne (l : List UInt8) : ∀ x ∈ textR l, x ≠ 0 := by
  intro x hx; obtain ⟨y, _, rfl⟩ := List.mem_map.1 hx; exact zr_ne y
/-- valid texts without nought stay as they are -/
theorem text_enc {X : List Nat} (h : ∀ x ∈ X, vr x) (h0 : ∀ x ∈ X, x ≠ 0) : text (enc X) = enc X := by
  unfold text textR; rw [runes_enc h, map_zr_id h0]
theorem text_text (l : List UInt8) : text (text l) = text l := text_enc (textR_vr l) (textR_ne l)
theorem runes_text (l : List UInt8) : runes (text l) = textR l := runes_enc (textR_vr l)
theorem textR_len (l : List UInt8) : (textR l).length = (runes l).length := by simp [textR]
theorem text_len (l : List UInt8) : (text l).length ≤ 4 * l.length := by
  have h1 := (enc_len (textR l)).2
  have h2 := runes_len l
  rw [textR_len] at h1
  unfold text; omega
theorem enc_ne {X : List Nat} (h : ∀ x ∈ X, vr x) (h0 : ∀ x ∈ X, x ≠ 0) : ∀ b ∈ enc X, b ≠ 0 := by
  intro b hb hb0
  obtain ⟨x, hx, hbx⟩ := List.mem_flatMap.1 hb
  have hv := h x hx
  have hn := h0 x hx
  obtain ⟨z, hz, he⟩ := List.mem_map.1 hbx
  have hby := encodeRuneZ_byte (x : Int) z hz
  have hz0 : z.toNat.toUInt8.toNat = z.toNat := ofNat_toNat' z hby.1 hby.2
  have : z.toNat = 0 := by rw [← hz0, he, hb0]; rfl
  have hzz : z = 0 := by omega
  subst hzz
  unfold encodeRuneZ at hz
  unfold vr at hv
  split at hz
  · simp at hz; omega
  · split at hz
    · simp at hz; omega
    · split at hz
      · simp at hz; omega
      · split at hz
        · simp at hz; omega
        · simp at hz

/-- small letters -/
def sml (x : Nat) : Nat := if 65 ≤ x ∧ x ≤ 90 then x + 32 else x
def bl (x : Nat) : Bool := blankB (x : Int)
theorem bl_iff (x : Nat) : bl x = true ↔ (9 ≤ x ∧ x ≤ 13) ∨ x = 32 ∨ x = 160 ∨ x = 8195 ∨ x = 12288 := by
  unfold bl blankB; rw [decide_eq_true_iff]; omega
theorem bl_false (x : Nat) : bl x = false ↔ ¬ ((9 ≤ x ∧ x ≤ 13) ∨ x = 32 ∨ x = 160 ∨ x = 8195 ∨ x = 12288) := by
  rw [← bl_iff]; simp
theorem sml_small (x : Nat) : smallR (x : Int) = (sml x : Int) := by unfold smallR sml; split <;> split <;> omega
theorem sml_vr {x : Nat} (h : vr x) : vr (sml x) := by unfold sml vr at *; split <;> omega

/-- one step: whether a blank was before, and what is out -/
def fstep (st : Bool × List Nat) (x : Nat) : Bool × List Nat :=
  if bl x = true then (true, st.2) else (false, (if st.1 = true ∧ st.2 ≠ [] then st.2 ++ [32] else st.2) ++ [sml x])
def foldS (X : List Nat) : Bool × List Nat := X.foldl fstep (false, [])
def fold (X : List Nat) : List Nat := (foldS X).2
theorem foldS_snoc (X : List Nat) (x : Nat) : foldS (X ++ [x]) = fstep (foldS X) x := by simp [foldS]
theorem foldS_nil : foldS [] = (false, []) := rfl

/-- from the end -/
theorem snoc_ind {P : List Nat → Prop} (h0 : P []) (h1 : ∀ X x, P X → P (X ++ [x])) : ∀ X, P X := by
  intro X
  have : ∀ Y : List Nat, P Y.reverse := by
    intro Y
    induction Y with
    | nil => exact h0
    | cons y Y ih => rw [List.reverse_cons]; exact h1 _ _ ih
  have := this X.reverse
  rwa [List.reverse_reverse] at this

theorem fold_vr {X : List Nat} (h : ∀ x ∈ X, vr x) : ∀ y ∈ fold X, vr y := by
  revert h
  refine snoc_ind (P := fun X => (∀ x ∈ X, vr x) → ∀ y ∈ fold X, vr y) (by simp [fold, foldS]) ?_ X
  intro X x ih h y hy
  have ih' := ih fun z hz => h z (by simp [hz])
  have hx := h x (by simp)
  unfold fold at hy ih'
  rw [foldS_snoc] at hy
  unfold fstep at hy
  split at hy
  · exact ih' y hy
  · simp only [List.mem_append, List.mem_singleton] at hy
    rcases hy with hy | rfl
    · split at hy
      · simp only [List.mem_append, List.mem_singleton] at hy
        rcases hy with hy | rfl
        · exact ih' y hy
        · unfold vr; omega
      · exact ih' y hy
    · exact sml_vr hx

/-- what may stand behind a rune in a folded text -/
def okn (last x : Nat) : Bool := !((bl x && (x != 32 || last == 32)) || (decide (65 ≤ x) && decide (x ≤ 90)))
def chk : Nat → List Nat → Bool
  | _, [] => true
  | d, x :: r => okn d x && chk x r
def lastD : Nat → List Nat → Nat
  | d, [] => d
  | _, x :: r => lastD x r
theorem chk_snoc : ∀ (X : List Nat) (d x : Nat), chk d (X ++ [x]) = (chk d X && okn (lastD d X) x)
  | [], d, x => by simp [chk, lastD]
  | y :: X, d, x => by simp only [List.cons_append, chk, lastD, chk_snoc X y x, Bool.and_assoc]
theorem lastD_snoc : ∀ (X : List Nat) (d x : Nat), lastD d (X ++ [x]) = x
  | [], _, _ => rfl
  | y :: X, _, x => by simp only [List.cons_append, lastD, lastD_snoc X y x]
theorem chk_app : ∀ (X Y : List Nat) (d : Nat), chk d (X ++ Y) = (chk d X && chk (lastD d X) Y)
  | [], Y, d => by simp [chk, lastD]
  | y :: X, Y, d => by simp only [List.cons_append, chk, lastD, chk_app X Y y, Bool.and_assoc]

theorem okn_sml {d x : Nat} (h : bl x = false) : okn d (sml x) = true := by
  have h1 : bl (sml x) = false := by rw [bl_false] at h ⊢; unfold sml; split <;> omega
  unfold okn
  rw [h1]
  simp only [Bool.false_and, Bool.false_or, Bool.not_eq_true', Bool.and_eq_false_iff, decide_eq_false_iff_not]
  unfold sml
  split <;> omega
theorem okn_32 {d : Nat} (h : d ≠ 32) : okn d 32 = true := by
  unfold okn
  have : (d == 32) = false := by simpa using h
  rw [this]
  simp
theorem sml_ne {x : Nat} (h : bl x = false) : sml x ≠ 32 := by rw [bl_false] at h; unfold sml; split <;> omega

theorem foldS_inv (X : List Nat) : chk 32 (foldS X).2 = true ∧ ((foldS X).2 ≠ [] → lastD 32 (foldS X).2 ≠ 32) ∧
    (foldS X).2.length ≤ X.length ∧ ((foldS X).1 = true → (foldS X).2.length + 1 ≤ X.length) := by
  refine snoc_ind (P := fun X => chk 32 (foldS X).2 = true ∧ ((foldS X).2 ≠ [] → lastD 32 (foldS X).2 ≠ 32) ∧ (foldS X).2.length ≤ X.length ∧ ((foldS X).1 = true → (foldS X).2.length + 1 ≤ X.length)) (by simp [foldS, chk]) ?_ X
  intro X x ⟨i1, i2, i3, i4⟩
  rw [foldS_snoc]
  unfold fstep
  cases hb : bl x with
  | true =>
    simp only [if_true, List.length_append, List.length_cons, List.length_nil]
    exact ⟨i1, i2, by omega, fun _ => by omega⟩
  | false =>
    simp only [Bool.false_eq_true, if_false]
    refine ⟨?_, fun _ => by rw [lastD_snoc]; exact sml_ne hb, ?_, fun h => by cases h⟩
    · rw [chk_snoc, okn_sml hb, Bool.and_true]
      split
      · rename_i hc
        rw [chk_snoc, i1, okn_32 (i2 hc.2)]; rfl
      · exact i1
    · simp only [List.length_append, List.length_cons, List.length_nil]
      split
      · rename_i hc
        have := i4 hc.1
        simp only [List.length_append, List.length_cons, List.length_nil]; omega
      · omega

theorem fold_chk (X : List Nat) : chk 32 (fold X) = true := (foldS_inv X).1
theorem fold_last (X : List Nat) (h : fold X ≠ []) : lastD 32 (fold X) ≠ 32 := (foldS_inv X).2.1 h
theorem fold_len (X : List Nat) : (fold X).length ≤ X.length := (foldS_inv X).2.2.1

theorem foldS_fix (X : List Nat) : chk 32 X = true → (X = [] ∨ lastD 32 X ≠ 32 → foldS X = (false, X)) ∧ (∀ Q, X = Q ++ [32] → foldS X = (true, Q) ∧ Q ≠ []) := by
  refine snoc_ind (P := fun X => chk 32 X = true → (X = [] ∨ lastD 32 X ≠ 32 → foldS X = (false, X)) ∧ (∀ Q, X = Q ++ [32] → foldS X = (true, Q) ∧ Q ≠ [])) ?_ ?_ X
  · intro _
    exact ⟨fun _ => rfl, fun Q h => by simp at h⟩
  · intro X x ih hc
    rw [chk_snoc, Bool.and_eq_true] at hc
    obtain ⟨h1, h2⟩ := hc
    obtain ⟨ia, ib⟩ := ih h1
    have hup : ¬ (65 ≤ x ∧ x ≤ 90) := by
      unfold okn at h2; simp at h2; omega
    rw [foldS_snoc, lastD_snoc]
    cases hb : bl x with
    | true =>
      unfold okn at h2
      rw [hb] at h2
      simp at h2
      obtain ⟨⟨hx, hl⟩, _⟩ := h2
      subst hx
      have hX : X ≠ [] := by intro h0; rw [h0] at hl; exact hl rfl
      have hs := ia (.inr hl)
      refine ⟨fun h => ?_, fun Q hQ => ?_⟩
      · rcases h with h | h
        · simp at h
        · exact absurd rfl h
      · obtain rfl : X = Q := by
          have := List.append_inj' hQ rfl
          exact this.1
        rw [hs]; unfold fstep; rw [hb]; exact ⟨rfl, hX⟩
    | false =>
      have hx : x ≠ 32 := by intro h0; rw [h0] at hb; exact absurd hb (by decide)
      have hsm : sml x = x := by unfold sml; rw [if_neg hup]
      refine ⟨fun _ => ?_, fun Q hQ => ?_⟩
      · by_cases hl : X = [] ∨ lastD 32 X ≠ 32
        · rw [ia hl]; unfold fstep; rw [hb, hsm]; simp
        · have hne : X ≠ [] := fun h => hl (.inl h)
          have h32 : lastD 32 X = 32 := by
            rcases Nat.decEq (lastD 32 X) 32 with h | h
            · exact absurd (.inr h) hl
            · exact h
          obtain ⟨Q, hQ⟩ : ∃ Q, X = Q ++ [32] := by
            refine ⟨X.dropLast, ?_⟩
            have e := List.dropLast_concat_getLast hne
            have : X.getLast hne = 32 := by
              rw [← e, lastD_snoc] at h32; exact h32
            rw [this] at e; exact e.symm
          obtain ⟨hs, hQn⟩ := ib Q hQ
          rw [hs]; unfold fstep; rw [hb, hsm]
          simp [hQn, hQ]
      · have := List.append_inj' hQ rfl
        simp at this
        exact absurd this.2 hx

theorem fold_fix {X : List Nat} (h : chk 32 X = true) (hl : X = [] ∨ lastD 32 X ≠ 32) : fold X = X := by
  unfold fold; rw [((foldS_fix X) h).1 hl]
theorem fold_fold (X : List Nat) : fold (fold X) = fold X :=
  fold_fix (fold_chk X) (by
    by_cases h : fold X = []
    · exact .inl h
    · exact .inr (fold_last X h))
end Go.Proofs.YtmbcddehacfpgaaDoor.Ru

namespace Go.Proofs.YtmbcddehacfpgaaDoor
open Go.RowKit

def mixZ (i : Nat) (X : List Nat) : List Nat := (X.take i).map Ru.zr ++ X.drop i
theorem mixZ_len (i : Nat) (X : List Nat) : (mixZ i X).length = X.length := by simp [mixZ]; omega
theorem mixZ_zero (X : List Nat) : mixZ 0 X = X := by simp [mixZ]
theorem mixZ_all {i : Nat} {X : List Nat} (h : X.length ≤ i) : mixZ i X = X.map Ru.zr := by simp [mixZ, List.take_of_length_le h, List.drop_eq_nil_of_le h]
theorem mixZ_at {i : Nat} {X : List Nat} (h : i < X.length) : (mixZ i X)[i]? = some X[i] := by
  unfold mixZ
  rw [List.getElem?_append_right (by simp; omega)]
  simp [Nat.min_eq_left (Nat.le_of_lt h), h]
theorem mixZ_succ {i : Nat} {X : List Nat} (h : i < X.length) : mixZ (i + 1) X = (mixZ i X).set i (Ru.zr X[i]) := by
  apply List.ext_getElem?
  intro j
  have hl := mixZ_len i X
  unfold mixZ at hl ⊢
  rw [List.getElem?_set]
  by_cases hj : i = j
  · subst hj
    rw [if_pos rfl, if_pos (by rw [hl]; exact h), List.getElem?_append_left (by simp; omega)]
    simp [h]
  · rw [if_neg hj]
    by_cases hlt : j < i
    · rw [List.getElem?_append_left (by simp; omega), List.getElem?_append_left (by simp; omega)]
      simp [hlt, Nat.lt_succ_of_lt hlt]
    · rw [List.getElem?_append_right (by simp; omega), List.getElem?_append_right (by simp; omega)]
      simp only [List.length_map, List.length_take, List.getElem?_drop]
      congr 1
      omega
theorem rcells_set (X : List Nat) (i x : Nat) : rcells (X.set i x) = (rcells X).set i (.int .i32 (x : Int)) := by simp [rcells, List.map_set]

end Go.Proofs.YtmbcddehacfpgaaDoor

namespace Go.Proofs.YtmbcddehacfpgaaDoor
open Go.Proofs.YtmbcddehacfpgaaDoor.Bk (Tree)

def Pb.lo (l : List UInt8) : List (List UInt8) := (Ln.texts (l.take 65536) 0).map Ru.text
theorem kn_nil : Pb.tree (Pb.lo []) = .mk 0 0 [] [] 0 [] := by kernel_rfl
theorem kn_a : Pb.tree (Pb.lo [62, 32, 97, 10, 98, 10, 45, 32, 99, 10, 10, 45, 32, 100, 10]) = .mk 0 0 [] [] 0 [.mk 1 0 [] [] 0 [.mk 4 0 [97, 10, 98] [] 0 []], .mk 2 0 [] [] 2 [.mk 3 0 [] [] 2 [.mk 4 0 [99] [] 2 []], .mk 3 0 [] [] 4 [.mk 4 0 [100] [] 4 []]]] := by kernel_rfl
theorem kn_b : Pb.tree (Pb.lo [45, 32, 97, 10, 32, 32, 126, 126, 126, 32, 120, 10, 32, 32, 98, 10, 32, 99, 10]) = .mk 0 0 [] [] 0 [.mk 2 0 [] [] 0 [.mk 3 0 [] [] 0 [.mk 4 0 [97] [] 0 [], .mk 7 0 [98, 10] [120] 1 []]], .mk 4 0 [99] [] 3 []] := by kernel_rfl
theorem kn_f : (Pb.read (Pb.lo [97, 10, 126, 126, 126, 32, 120, 10, 98, 10, 126, 126, 126, 10, 62, 32, 126, 126, 126, 10, 126, 126, 126, 32, 121])).places = [⟨1, ⟨126, 3, 0, [120]⟩, 2, 3, true⟩, ⟨5, ⟨126, 3, 0, [121]⟩, 6, 6, false⟩] := by kernel_rfl
end Go.Proofs.YtmbcddehacfpgaaDoor
