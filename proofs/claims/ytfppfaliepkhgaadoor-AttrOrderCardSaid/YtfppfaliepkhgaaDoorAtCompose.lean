/- Package attr: an info, written. -/
import Derived.Test.YtfppfaliepkhgaaDoorAtBld
import Derived.Test.YtfppfaliepkhgaaDoorAtReadMath
namespace Go.Proofs.YtfppfaliepkhgaaDoor
open Go.RowKit

/-- a word more -/
def At.add (t x : List UInt8) : List UInt8 := if x = [] then t else if t = [] then x else t ++ 32 :: x
def At.pval (t : List UInt8) : List UInt8 := if At.bare t = true then t else 34 :: (At.esc t ++ [34])
def At.addPair (t key text : List UInt8) : List UInt8 := if text = [] then t else At.add t (key ++ 61 :: At.pval text)
def At.flags (t : List UInt8) (a : At.Attr) : List UInt8 := At.add (At.add t (if a.append = true then At.wAppend else [])) (if a.noline = true then At.wNoline else [])
def At.compose (a : At.Attr) : List UInt8 := At.flags (At.addPair (At.addPair (At.addPair (At.add [] a.lang) At.wName a.name) At.wFile a.file) At.wComment a.style) a
theorem At.add_nil (t : List UInt8) : At.add t [] = t := if_pos rfl
theorem At.add_len (t x : List UInt8) : (At.add t x).length ≤ t.length + 1 + x.length := by
  unfold At.add; split
  · omega
  · split
    · omega
    · simp; omega
theorem At.pval_len (t : List UInt8) : (At.pval t).length ≤ 2 * t.length + 2 := by
  have := At.esc_len t
  unfold At.pval; split <;> simp <;> omega
theorem At.addPair_len (t key text : List UInt8) : (At.addPair t key text).length ≤ t.length + key.length + 2 * text.length + 4 := by
  have h1 := At.add_len t (key ++ 61 :: At.pval text)
  have h2 := At.pval_len text
  unfold At.addPair; split
  · omega
  · simp at h1; omega

/-- what stays of a builder's life -/
abbrev BldOut (B b : Nat) (t : List UInt8) (w w' : World) : Prop := IsB B b (bcells t) w' ∧ Below B w w'

set_option maxHeartbeats 2000000 in
set_option maxRecDepth 100000 in
theorem add_any (B b : Nat) (t x : List UInt8) (w : World) (hI : IsB B b (bcells t) w) (hBw : B ≤ w.heap.size) (ht : t.length ≤ 10000000000) (hx : x.length ≤ 10000000000) :
    Calls Tryd.prog 41 #[.pointer (some ⟨b, 0, none⟩), .string (bs x)] w fun e w' => (∃ v, e = .returned v) ∧ BldOut B b (At.add t x) w w' := by
  have htl := bcells_len t
  rcases x with _ | ⟨c, r⟩
  · rw [At.add_nil]
    have h0 := text_nil
    go_enter Tryd.func41, Tryd.ntmps41
    go_wp2_with fail
    exact bodyPost_ret (results_none rfl _ _ _) rfl ⟨⟨_, rfl⟩, hI, Below.refl _ _⟩
  · have h0 := text_cons c r
    have hlen := bld_len B b t w hI
    by_cases h : t = []
    · subst h
      rw [show At.add [] (c :: r) = c :: r from by simp [At.add]]
      have hg : decide ((0 : Int) < 0) = false := by simp
      obtain ⟨X, hX⟩ : ∃ X, c :: r = X := ⟨_, rfl⟩
      rw [hX] at h0 hx ⊢
      clear hX
      go_enter Tryd.func41, Tryd.ntmps41
      go_wp2_with (first | (go_at_call 57; refine hlen.mono ?_; rintro e w1 ⟨rfl, rfl⟩) | (go_at_call 59; refine (writeString_any B b _ X _ hI (by simp [bcells]; omega) hBw).mono ?_; rintro e w2 ⟨⟨v, rfl⟩, h1, b1, k1⟩))
      go_end0
      exact ⟨⟨_, rfl⟩, h1, b1⟩
    · rw [show At.add t (c :: r) = (t ++ [32]) ++ (c :: r) from by simp [At.add, h]]
      have hpos := List.length_pos_iff.2 h
      have hg : (0 : Int) < (t.length : Int) := by omega
      obtain ⟨X, hX⟩ : ∃ X, c :: r = X := ⟨_, rfl⟩
      rw [hX] at h0 hx ⊢
      clear hX
      go_enter Tryd.func41, Tryd.ntmps41
      go_wp2_with (first
        | (go_at_call 57; refine hlen.mono ?_; rintro e w1 ⟨rfl, rfl⟩)
        | (go_at_call 58; refine (writeByte_any B b _ 32 _ hI (by omega) hBw).mono ?_; rintro e w2 ⟨rfl, h1, b1, k1⟩; replace h1 := bld_more (c := 32) h1; have hz2 := Nat.le_trans hBw b1.size)
        | (go_at_call 59; refine (writeString_any B b _ X _ h1 (by simp [bcells]; omega) hz2).mono ?_; rintro e w3 ⟨⟨v, rfl⟩, h3, b3, k3⟩))
      go_end0
      exact ⟨⟨_, rfl⟩, by rw [bcells_append]; exact h3, b1.trans b3⟩

theorem bld_ext {B b : Nat} {xs : List Value} {w w' : World} (h : IsB B b xs w) (hb : Below w.heap.size w w') : IsB B b xs w' := by
  have key : ∀ p, Lib.BuilderAtF 71 5 B b p xs w → Lib.BuilderAtF 71 5 B b p xs w' := by
    intro p h
    have hlt := h.lt
    obtain ⟨hB, v, hbk, hown, hne⟩ := h
    refine ⟨hB, v, (hb.block b hlt).trans hbk, ⟨hown.1, ?_⟩, hne⟩
    rcases hown.2 with hn | ⟨g, cap, cur, fz, rfl, hbg, hgg, rest⟩
    · exact .inl hn
    · exact .inr ⟨g, cap, cur, fz, rfl, hbg, (hb.block g (Array.getElem?_eq_some_iff.1 hgg).1).trans hgg, rest⟩
  exact h.elim (fun x => .inl (key _ x)) (fun x => .inr (key _ x))

set_option maxHeartbeats 4000000 in
set_option maxRecDepth 100000 in
theorem addPair_any (B b : Nat) (t key text : List UInt8) (w : World) (hI : IsB B b (bcells t) w) (hBw : B ≤ w.heap.size) (ht : t.length ≤ 1000000000) (hk : key.length ≤ 20) (hx : text.length ≤ 100000000) :
    Calls Tryd.prog 42 #[.pointer (some ⟨b, 0, none⟩), .string (bs key), .string (bs text)] w fun e w' => (∃ v, e = .returned v) ∧ BldOut B b (At.addPair t key text) w w' := by
  have hzk := bs_size key
  have hzt := bs_size text
  have e1 : bs key ++ ⟨#[61]⟩ = bs (key ++ [61]) := by rw [show (⟨#[61]⟩ : ByteArray) = bs [61] from rfl, bs_append]
  have hz1 : (bs (key ++ [61])).size = key.length + 1 := by rw [bs_size]; simp
  by_cases h0 : text = []
  · subst h0
    rw [show At.addPair t key [] = t from if_pos rfl]
    have ht0 := text_nil
    go_enter Tryd.func42, Tryd.ntmps42
    go_wp2_with fail
    go_end0
    exact ⟨⟨_, rfl⟩, hI, Below.refl _ _⟩
  · have hap : At.addPair t key text = At.add t (key ++ 61 :: At.pval text) := if_neg h0
    have ht0 : (bs text).toList.isEmpty = false := by rw [bs_toList]; simpa using h0
    have hba := pbare_any text
    rw [hap]
    cases hb : At.bare text with
    | true =>
      have hpv : At.pval text = text := if_pos hb
      rw [hb] at hba
      rw [hpv]
      have e2 : bs (key ++ [61]) ++ bs text = bs (key ++ 61 :: text) := by rw [bs_append]; simp
      have hXl : (key ++ 61 :: text).length ≤ 200000000 := by simp; omega
      obtain ⟨X, hX⟩ : ∃ X, key ++ 61 :: text = X := ⟨_, rfl⟩
      rw [hX] at e2 hXl ⊢
      obtain ⟨Y, hY⟩ : ∃ Y, key ++ [61] = Y := ⟨_, rfl⟩
      rw [hY] at e1 e2 hz1
      clear hX hY hb hap hpv h0
      go_enter Tryd.func42, Tryd.ntmps42
      go_wp2_with (first
        | (go_at_call 60; refine (hba _).mono ?_; rintro e w1 ⟨rfl, hb1⟩)
        | (go_at_call 41; refine (add_any B b t X _ (bld_ext hI hb1) (Nat.le_trans hBw hb1.size) (by omega) (by omega)).mono ?_; rintro e w2 ⟨⟨v, rfl⟩, h2, hb2⟩))
      go_end0
      exact ⟨⟨_, rfl⟩, h2, (hb1.mono hBw).trans hb2⟩
    | false =>
      have hpv : At.pval text = 34 :: (At.esc text ++ [34]) := if_neg (by rw [hb]; simp)
      rw [hb] at hba
      have hpl := At.pval_len text
      rw [hpv]
      rw [hpv] at hpl
      have hqu := fun w => quote_any text w (by omega)
      obtain ⟨V, hV⟩ : ∃ V, 34 :: (At.esc text ++ [34]) = V := ⟨_, rfl⟩
      rw [hV] at hpl hqu ⊢
      have hzV := bs_size V
      have e2 : bs (key ++ [61]) ++ bs V = bs (key ++ 61 :: V) := by rw [bs_append]; simp
      have hXl : (key ++ 61 :: V).length ≤ 300000000 := by simp; omega
      obtain ⟨X, hX⟩ : ∃ X, key ++ 61 :: V = X := ⟨_, rfl⟩
      rw [hX] at e2 hXl ⊢
      obtain ⟨Y, hY⟩ : ∃ Y, key ++ [61] = Y := ⟨_, rfl⟩
      rw [hY] at e1 e2 hz1
      clear hX hY hb hap hpv h0 hV
      go_enter Tryd.func42, Tryd.ntmps42
      go_wp2_with (first
        | (go_at_call 60; refine (hba _).mono ?_; rintro e w1 ⟨rfl, hb1⟩)
        | (go_at_call 61; refine (hqu _).mono ?_; rintro e w3 ⟨rfl, hb3⟩)
        | (go_at_call 41; refine (add_any B b t X _ (bld_ext (bld_ext hI hb1) hb3) (Nat.le_trans (Nat.le_trans hBw hb1.size) hb3.size) (by omega) (by omega)).mono ?_; rintro e w2 ⟨⟨v, rfl⟩, h2, hb2⟩))
      go_end0
      exact ⟨⟨_, rfl⟩, h2, ((ext_trans hb1 hb3).mono hBw).trans hb2⟩

/-- how long what is written may be -/
def At.fits (a : At.Attr) : Prop := a.lang.length ≤ 100000000 ∧ a.name.length ≤ 100000000 ∧ a.file.length ≤ 100000000 ∧ a.style.length ≤ 100000000
theorem At.compose_len {a : At.Attr} (h : At.fits a) : (At.compose a).length ≤ 1000000000 := by
  obtain ⟨h1, h2, h3, h4⟩ := h
  unfold At.compose At.flags
  have k0 := At.add_len [] a.lang
  have k1 := At.addPair_len (At.add [] a.lang) At.wName a.name
  have k2 := At.addPair_len (At.addPair (At.add [] a.lang) At.wName a.name) At.wFile a.file
  have k3 := At.addPair_len (At.addPair (At.addPair (At.add [] a.lang) At.wName a.name) At.wFile a.file) At.wComment a.style
  have k4 := At.add_len (At.addPair (At.addPair (At.addPair (At.add [] a.lang) At.wName a.name) At.wFile a.file) At.wComment a.style) (if a.append = true then At.wAppend else [])
  have k5 := At.add_len (At.add (At.addPair (At.addPair (At.addPair (At.add [] a.lang) At.wName a.name) At.wFile a.file) At.wComment a.style) (if a.append = true then At.wAppend else [])) (if a.noline = true then At.wNoline else [])
  have f1 : (if a.append = true then At.wAppend else []).length ≤ 6 := by split <;> simp [At.wAppend]
  have f2 : (if a.noline = true then At.wNoline else []).length ≤ 6 := by split <;> simp [At.wNoline]
  have n1 : At.wName.length = 4 := rfl
  have n2 : At.wFile.length = 4 := rfl
  have n3 : At.wComment.length = 7 := rfl
  simp only [List.length_nil] at k0
  omega
end Go.Proofs.YtfppfaliepkhgaaDoor
