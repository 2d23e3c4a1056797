/- Documents of words, line by line: plain mathematics. No program is spoken of here. Documents of items, line by line: plain mathematics. No program is spoken of here. -/
import Derived.Test.YtmbcddehacfpgaaDoorMr02
import Derived.Test.YtmbcddehacfpgaaDoorMr13
import Derived.Test.YtmbcddehacfpgaaDoorMi01
import Derived.KernelRfl
namespace Go.Proofs.YtmbcddehacfpgaaDoor.Pb
open Go.Proofs.YtmbcddehacfpgaaDoor.Cl (strip isGap lead gaps)
open Go.Proofs.YtmbcddehacfpgaaDoor.Fn (cl rs emp trim front back)
open Go.Proofs.YtmbcddehacfpgaaDoor.Bk (Tree Pl)

/-- signs that may be shown, each of one byte -/
def Shown (s : List UInt8) : Prop := ∀ b ∈ s, 32 ≤ b.toNat ∧ b.toNat ≤ 126
theorem enc_shown {s : List UInt8} (h : Shown s) : Ru.enc (s.map (·.toNat)) = s := by
  induction s with
  | nil => rfl
  | cons b r ih =>
    have hb := h b (by simp)
    rw [List.map_cons, Ru.enc_cons, ih fun x hx => h x (by simp [hx])]
    rw [Lib.encodeRune, Lib.encodeRuneZ_one (by omega) (by omega)]
    simp
theorem text_shown {s : List UInt8} (h : Shown s) : Ru.text s = s := by
  have h2 := enc_shown h
  have := Ru.text_enc (X := s.map (·.toNat)) (fun x hx => by
    obtain ⟨b, hb, rfl⟩ := List.mem_map.1 hx
    have := h b hb
    unfold Ru.vr; omega) (fun x hx => by
    obtain ⟨b, hb, rfl⟩ := List.mem_map.1 hx
    have := h b hb
    omega)
  rwa [h2] at this
theorem shown_end {s : List UInt8} (h : Shown s) : ∀ b ∈ s, Ln.isEnd b = false := by
  intro b hb
  have := h b hb
  unfold Ln.isEnd
  have h1 : b ≠ 10 := by rintro rfl; revert this; decide
  have h2 : b ≠ 13 := by rintro rfl; revert this; decide
  simp [h1, h2]
/-- lines of such signs are read as they are -/
theorem lines_shown {ls : List (List UInt8)} (h : ∀ s ∈ ls, Shown s) (hl : (Ln.join ls [10]).length ≤ 65536) : (Ln.texts ((Ln.join ls [10]).take 65536) 0).map Ru.text = ls := by
  rw [List.take_of_length_le hl]
  have := Ln.tx_join_ten ls fun s hs => shown_end (h s hs)
  unfold Ln.tx at this
  rw [this]
  have : ∀ l : List (List UInt8), (∀ s ∈ l, Shown s) → l.map Ru.text = l := fun l => by
    induction l with
    | nil => exact fun _ => rfl
    | cons s r ih => intro h; rw [List.map_cons, text_shown (h s (by simp)), ih fun x hx => h x (by simp [hx])]
  exact this ls h

/-- small letters, one at least -/
def Word (s : List UInt8) : Prop := s ≠ [] ∧ ∀ b ∈ s, 97 ≤ b.toNat ∧ b.toNat ≤ 122
theorem word_shown {s : List UInt8} (h : Word s) : Shown s := fun b hb => by have := h.2 b hb; omega
theorem letter_ne {b : UInt8} (h : 97 ≤ b.toNat ∧ b.toNat ≤ 122) (c : UInt8) (hc : c.toNat < 97 ∨ 122 < c.toNat) : b ≠ c := by rintro rfl; omega
theorem letter_gap {b : UInt8} (h : 97 ≤ b.toNat ∧ b.toNat ≤ 122) : isGap b = false := by
  unfold isGap
  simp [letter_ne h 32 (by decide), letter_ne h 9 (by decide)]
theorem back_word {s : List UInt8} (h : ∀ b ∈ s, isGap b = false) : back s = s := by
  induction s with
  | nil => rfl
  | cons b r ih => rw [Fn.back_word _ (h b (by simp)), ih fun x hx => h x (by simp [hx])]
theorem word_flat {s : List UInt8} (h : Word s) : lead Cl.inf s 0 = (0, 0) ∧ cl s = 0 ∧ rs s = s := by
  have h1 : lead Cl.inf s 0 = (0, 0) := by
    cases s with
    | nil => rfl
    | cons b r => exact Cl.lead_word _ (letter_gap (h.2 b (by simp)))
  refine ⟨h1, ?_, ?_⟩
  · unfold Fn.cl; rw [h1]
  · unfold Fn.rs; rw [h1]; rfl
theorem word_kind {s : List UInt8} (h : Word s) : emp s = false ∧ Lf.heading s = none ∧ Lf.brk s = false ∧ Fn.begins s = none ∧ Lf.quote s = none ∧ Lf.item s = none ∧ trim s = s := by
  obtain ⟨h1, h2, h3⟩ := word_flat h
  obtain ⟨b, r, rfl⟩ : ∃ b r, s = b :: r := by cases s with
    | nil => exact absurd rfl h.1
    | cons b r => exact ⟨b, r, rfl⟩
  have hb := h.2 b (by simp)
  have hr : ∀ c : UInt8, c.toNat < 97 ∨ 122 < c.toNat → Fn.run c (b :: r) = 0 := fun c hc => Fn.run_stop _ (letter_ne hb c hc)
  refine ⟨?_, ?_, ?_, ?_, ?_, ?_, ?_⟩
  · unfold Fn.emp; rw [h1]; simp
  · unfold Lf.heading
    rw [h3, hr 35 (by decide), if_neg (by omega)]
  · rw [Lf.brk_cons h3 (by omega)]
    have : Lf.ruler b = false := by
      unfold Lf.ruler
      simp [letter_ne hb 42 (by decide), letter_ne hb 45 (by decide), letter_ne hb 95 (by decide)]
    rw [this]; rfl
  · refine Fn.begins_no h3 fun hh => ?_
    rcases hh.2.1 with e | e
    · exact letter_ne hb 96 (by decide) e
    · exact letter_ne hb 126 (by decide) e
  · unfold Lf.quote
    rw [h3]
    exact if_neg fun hh => letter_ne hb 62 (by decide) hh.2
  · unfold Lf.item
    rw [h3]
    refine if_neg fun hh => ?_
    have : Lf.bullet b = false := by
      unfold Lf.bullet
      simp [letter_ne hb 42 (by decide), letter_ne hb 45 (by decide), letter_ne hb 43 (by decide)]
    rw [this] at hh
    exact absurd hh.2.1 (by simp)
  · unfold Fn.trim
    rw [Fn.front_word _ (letter_gap hb), back_word fun x hx => letter_gap (h.2 x hx)]
theorem opener_word {s : List UInt8} (h : Word s) : Bk.opener s = none := by
  obtain ⟨_, _, _, _, h5, h6, _⟩ := word_kind h
  unfold Bk.opener
  rw [h5, h6]
theorem begin_none {ln m k : Nat} {r : Rd} {s : List UInt8} (h : Bk.opener s = none) : begin ln m k r s = (r, k, s) := by
  cases m with
  | zero => rfl
  | succ m => rw [begin, h]
theorem takeLine_plain {n k : Nat} {r : Rd} {s q : List UInt8} (ht : take r.row.reverse s = (k, q)) (ho : Bk.opener q = none) (h7 : r.leaf.kind ≠ 7) : takeLine n s r = leafLine n k q r := by
  unfold takeLine
  rw [if_neg fun h => h7 h.1, ht, begin_none ho]
theorem leafLine_word {n k : Nat} {r : Rd} {s : List UInt8} (h : Word s) : leafLine n k s r = if r.leaf.kind = 4 then { r with leaf := { r.leaf with lines := r.leaf.lines ++ [s] } } else { closeTo k r with leaf := ⟨4, n, [s], noOp, false⟩ } := by
  obtain ⟨h1, h2, h3, h4, _, _, h7⟩ := word_kind h
  unfold leafLine
  rw [if_neg (by rw [h1]; simp), h2]
  simp only
  rw [if_neg (by rw [h3]; simp), h4]
  simp only
  rw [h7]
theorem words_more : ∀ (ws : List (List UInt8)) (n : Nat) (r : Rd), (∀ s ∈ ws, Word s) → r.leaf.kind = 4 → (∀ s, Word s → ∃ k, take r.row.reverse s = (k, s)) → lines ws n r = { r with leaf := { r.leaf with lines := r.leaf.lines ++ ws } }
  | [], _, r, _, _, _ => by rw [lines, List.append_nil]
  | s :: t, n, r, hw, h4, ht => by
    obtain ⟨k, hk⟩ := ht s (hw s (by simp))
    rw [lines, takeLine_plain hk (opener_word (hw s (by simp))) (by omega), leafLine_word (hw s (by simp)), if_pos h4]
    rw [words_more t (n + 1) { r with leaf := { r.leaf with lines := r.leaf.lines ++ [s] } } (fun x hx => hw x (by simp [hx])) h4 ht]
    simp only [List.append_assoc, List.cons_append, List.nil_append]
theorem take_doc {D : Cn} (h : D.kind = 0) (s : List UInt8) : D.take s = some s := by
  unfold Cn.take
  rw [if_neg (by omega), if_neg (by omega)]
theorem take_one {D : Cn} (h : D.kind = 0) (s : List UInt8) : take [D] s = (1, s) := by
  rw [take, take_doc h]; rfl
theorem closeTo_done (D : Cn) (ps : List Pl) : closeTo 1 ⟨[D], noLeaf, ps⟩ = ⟨[D], noLeaf, ps⟩ := rfl
theorem closeTo_para (D : Cn) (n : Nat) (ws : List (List UInt8)) (ps : List Pl) : closeTo 1 ⟨[D], ⟨4, n, ws, noOp, false⟩, ps⟩ = ⟨[D.add (.mk 4 0 (joinNl ws) [] n [])], noLeaf, ps⟩ := rfl
theorem words_run {D : Cn} (h : D.kind = 0) (n : Nat) (ps : List Pl) {ws : List (List UInt8)} (hn : ws ≠ []) (hw : ∀ s ∈ ws, Word s) : lines ws n ⟨[D], noLeaf, ps⟩ = ⟨[D], ⟨4, n, ws, noOp, false⟩, ps⟩ := by
  cases ws with
  | nil => exact absurd rfl hn
  | cons s t =>
    rw [lines, takeLine_plain (r := ⟨[D], noLeaf, ps⟩) (take_one h s) (opener_word (hw s (by simp))) (by simp [noLeaf]), leafLine_word (hw s (by simp)), if_neg (by simp [noLeaf]), closeTo_done]
    rw [words_more t (n + 1) ⟨[D], ⟨4, n, [s], noOp, false⟩, ps⟩ (fun x hx => hw x (by simp [hx])) rfl (fun s _ => ⟨1, take_one h s⟩)]
    rfl
theorem lines_append : ∀ (a b : List (List UInt8)) (n : Nat) (r : Rd), lines (a ++ b) n r = lines b (n + a.length) (lines a n r)
  | [], b, n, r => rfl
  | s :: t, b, n, r => by
    rw [List.cons_append, lines, lines_append t b (n + 1), lines, List.length_cons, show n + 1 + t.length = n + (t.length + 1) from by omega]
def D0 : Cn := ⟨0, 0, [], 0, 0, none⟩
abbrev para (ws : List (List UInt8)) (n : Nat) : Tree := .mk 4 0 (joinNl ws) [] n []
theorem tree_of {ls : List (List UInt8)} {c : Cn} {l : Of} {ps : List Pl} (h : closeTo 1 (lines ls 0 start) = ⟨[c], l, ps⟩) : tree ls = c.tree := by
  unfold tree read
  rw [h]
/-- words are one paragraph -/
theorem tree_words {ws : List (List UInt8)} (hn : ws ≠ []) (hw : ∀ s ∈ ws, Word s) : tree ws = .mk 0 0 [] [] 0 [para ws 0] := by
  refine tree_of (c := D0.add (para ws 0)) (l := noLeaf) (ps := []) ?_
  have := words_run (D := D0) rfl 0 [] hn hw
  rw [show start = ⟨[D0], noLeaf, []⟩ from rfl, this, closeTo_para]
theorem blank_line (D : Cn) (h : D.kind = 0) (n m : Nat) (ws : List (List UInt8)) (ps : List Pl) : takeLine n [32, 32, 32] ⟨[D], ⟨4, m, ws, noOp, false⟩, ps⟩ = ⟨[D.add (para ws m)], noLeaf, ps⟩ := by
  rw [takeLine_plain (r := ⟨[D], ⟨4, m, ws, noOp, false⟩, ps⟩) (take_one h _) (by kernel_rfl) (by simp)]
  unfold leafLine
  rw [if_pos (by kernel_rfl), closeTo_para]
theorem head_line (D : Cn) (h : D.kind = 0) (n m : Nat) (ws : List (List UInt8)) (ps : List Pl) : takeLine n [35, 32, 104] ⟨[D], ⟨4, m, ws, noOp, false⟩, ps⟩ = ⟨[(D.add (para ws m)).add (.mk 5 1 [104] [] n [])], noLeaf, ps⟩ := by
  rw [takeLine_plain (r := ⟨[D], ⟨4, m, ws, noOp, false⟩, ps⟩) (take_one h _) (by kernel_rfl) (by simp)]
  unfold leafLine
  rw [if_neg (by rw [show emp [35, 32, 104] = false by kernel_rfl]; simp), show Lf.heading [35, 32, 104] = some (1, [104]) by kernel_rfl]
  simp only
  rw [closeTo_para]
  rfl
/-- with an empty line between them they are two -/
theorem tree_two {ws : List (List UInt8)} (hn : ws ≠ []) (hw : ∀ s ∈ ws, Word s) : tree (ws ++ [32, 32, 32] :: ws) = .mk 0 0 [] [] 0 [para ws 0, para ws (ws.length + 1)] := by
  refine tree_of (c := (D0.add (para ws 0)).add (para ws (ws.length + 1))) (l := noLeaf) (ps := []) ?_
  rw [lines_append, show start = ⟨[D0], noLeaf, []⟩ from rfl, words_run (D := D0) rfl 0 [] hn hw, lines, blank_line D0 rfl, words_run (D := D0.add (para ws 0)) rfl _ [] hn hw, closeTo_para, Nat.zero_add]
/-- a heading stands between them -/
theorem tree_head {ws : List (List UInt8)} (hn : ws ≠ []) (hw : ∀ s ∈ ws, Word s) : tree (ws ++ [35, 32, 104] :: ws) = .mk 0 0 [] [] 0 [para ws 0, .mk 5 1 [104] [] ws.length [], para ws (ws.length + 1)] := by
  refine tree_of (c := ((D0.add (para ws 0)).add (.mk 5 1 [104] [] ws.length [])).add (para ws (ws.length + 1))) (l := noLeaf) (ps := []) ?_
  rw [lines_append, show start = ⟨[D0], noLeaf, []⟩ from rfl, words_run (D := D0) rfl 0 [] hn hw, lines, head_line D0 rfl, words_run (D := (D0.add (para ws 0)).add (.mk 5 1 [104] [] (0 + ws.length) [])) rfl _ [] hn hw, closeTo_para, Nat.zero_add]
theorem quote_word (s : List UInt8) : Bk.opener (62 :: 32 :: s) = some (none, s) := by
  have h1 : lead Cl.inf (62 :: 32 :: s) 0 = (0, 0) := Cl.lead_word _ (by rfl)
  have hq : Lf.quote (62 :: 32 :: s) = some s := by
    unfold Lf.quote
    have h2 : rs (62 :: 32 :: s) = 62 :: 32 :: s := by unfold Fn.rs; rw [h1]; rfl
    have h3 : cl (62 :: 32 :: s) = 0 := by unfold Fn.cl; rw [h1]
    rw [h2]
    simp only
    rw [if_pos ⟨by omega, by trivial⟩]
    have h4 : lead 1 (32 :: s) 0 = (1, 1) := by
      rw [Cl.lead_go _ (by decide) (by rfl), Cl.lead_full _ (by decide)]
      rfl
    unfold Cl.strip
    rw [h4]
    rfl
  unfold Bk.opener
  rw [hq]
theorem quote_line {s : List UInt8} (h : Word s) : takeLine 0 (62 :: 32 :: s) ⟨[D0], noLeaf, []⟩ = ⟨[⟨1, 0, [], 0, 0, none⟩, D0], ⟨4, 0, [s], noOp, false⟩, []⟩ := by
  unfold takeLine
  rw [if_neg (by simp [noLeaf]), show (⟨[D0], noLeaf, []⟩ : Rd).row.reverse = [D0] from rfl, take_one (D := D0) rfl]
  rw [show (41 - (1, 62 :: 32 :: s).1) = 39 + 1 from rfl]
  rw [begin, quote_word s]
  simp only
  rw [begin_none (opener_word h), closeTo_done]
  simp only
  rw [leafLine_word h, if_neg (by simp [push, noLeaf])]
  rfl
/-- with > ahead of the first alone they are one still, in a quote -/
theorem tree_quote {s : List UInt8} {ws : List (List UInt8)} (hs : Word s) (hw : ∀ x ∈ ws, Word x) : tree ((62 :: 32 :: s) :: ws) = .mk 0 0 [] [] 0 [.mk 1 0 [] [] 0 [para (s :: ws) 0]] := by
  refine tree_of (c := D0.add (.mk 1 0 [] [] 0 [para (s :: ws) 0])) (l := noLeaf) (ps := []) ?_
  rw [lines, show start = ⟨[D0], noLeaf, []⟩ from rfl, quote_line hs, words_more ws 1 _ hw rfl (fun x hx => ⟨1, ?_⟩)]
  · rfl
  · show take [D0, ⟨1, 0, [], 0, 0, none⟩] x = (1, x)
    have : (⟨1, 0, [], 0, 0, none⟩ : Cn).take x = none := by
      unfold Cn.take
      rw [if_pos rfl, (word_kind hx).2.2.2.2.1]
    show (match D0.take x with | none => (0, x) | some q => ((take [⟨1, 0, [], 0, 0, none⟩] q).1 + 1, (take [⟨1, 0, [], 0, 0, none⟩] q).2)) = _
    rw [take_doc (D := D0) rfl]
    show ((match (⟨1, 0, [], 0, 0, none⟩ : Cn).take x with | none => (0, x) | some q => ((take [] q).1 + 1, (take [] q).2)).1 + 1, _) = _
    rw [this]
    show (0 + 1, (match (⟨1, 0, [], 0, 0, none⟩ : Cn).take x with | none => (0, x) | some q => ((take [] q).1 + 1, (take [] q).2)).2) = _
    rw [this]
end Go.Proofs.YtmbcddehacfpgaaDoor.Pb

namespace Go.Proofs.YtmbcddehacfpgaaDoor.Pb
open Go.Proofs.YtmbcddehacfpgaaDoor.Fn (cl rs emp trim front back)
open Go.Proofs.YtmbcddehacfpgaaDoor.Bk (Tree Pl)

def tkids : Tree → List Tree | .mk _ _ _ _ _ ks => ks
def tkind' : Tree → Nat | .mk kd _ _ _ _ _ => kd
/-- how many blocks stand within some blocks -/
def lsum : List Tree → Nat
  | [] => 0
  | t :: ts => (tkids t).length + lsum ts
theorem lsum_append (a b : List Tree) : lsum (a ++ b) = lsum a + lsum b := by
  induction a with
  | nil => simp [lsum]
  | cons t ts ih => rw [List.cons_append, lsum, lsum, ih]; omega
/-- a sign of items -/
def Sign (c : UInt8) : Prop := c = 45 ∨ c = 42 ∨ c = 43
theorem item_of {c : UInt8} (h : Sign c) : Bk.opener [c, 32, 119] = some (some (c, 2), [119]) ∧ emp [c, 32, 119] = false ∧ cl [c, 32, 119] = 0 := by
  rcases h with rfl | rfl | rfl <;> exact ⟨by kernel_rfl, by kernel_rfl, by kernel_rfl⟩
/-- lists alone, so many, with so many items -/
structure Lists (D : Cn) (n m : Nat) : Prop where
  kind : D.kind = 0
  all : ∀ t ∈ D.all, tkind' t = 2
  len : D.all.length = n
  sum : lsum D.all = m
theorem lists_item {D I : Cn} {n m : Nat} (h : Lists D n m) (hI : I.kind = 3) (h0 : I.sign ≠ 0) : Lists (give I D) (n + if D.listSign = I.sign then 0 else 1) (m + 1) ∧ (give I D).listSign = I.sign := by
  obtain ⟨h1, h2, h3, h4⟩ := h
  have hnew : Lists { D with kids := D.all, lst := some (I.sign, I.line, [I.tree]) } (n + 1) (m + 1) := by
    refine ⟨h1, fun t ht => ?_, ?_, ?_⟩
    · rcases List.mem_append.1 ht with ht | ht
      · exact h2 t ht
      · simp [listTree] at ht; rw [ht]; rfl
    · show (D.all ++ [_]).length = _
      rw [List.length_append, h3]; rfl
    · show lsum (D.all ++ [_]) = _
      rw [lsum_append, h4]; rfl
  unfold give
  rw [if_pos hI]
  unfold Cn.addItem Cn.listSign
  cases hl : D.lst with
  | none =>
    simp only
    rw [if_neg (fun e => h0 e.symm)]
    exact ⟨hnew, trivial⟩
  | some x =>
    obtain ⟨s, ln, is⟩ := x
    simp only
    by_cases hs : s = I.sign
    · rw [if_pos hs, if_pos hs]
      have ha : D.all = D.kids ++ [.mk 2 0 [] [] ln is] := by unfold Cn.all; rw [hl]; rfl
      rw [ha] at h2 h3 h4
      refine ⟨⟨h1, fun t ht => ?_, ?_, ?_⟩, hs⟩
      · rcases List.mem_append.1 ht with ht | ht
        · exact h2 t (List.mem_append_left _ ht)
        · simp [listTree] at ht; rw [ht]; rfl
      · show (D.kids ++ [_]).length = _
        rw [← h3]; simp
      · show lsum (D.kids ++ [Tree.mk 2 0 [] [] ln (is ++ [I.tree])]) = _
        rw [lsum_append] at h4 ⊢
        simp only [lsum, tkids, List.length_append, List.length_cons, List.length_nil] at h4 ⊢
        omega
    · rw [if_neg hs, if_neg hs]
      exact ⟨hnew, rfl⟩
/-- an item is open, behind so many lists, so many items -/
def Open (c : UInt8) (n m : Nat) (r : Rd) : Prop := ∃ I D a b, r.row = [I, D] ∧ I.kind = 3 ∧ I.sign = c ∧ I.col = 2 ∧ (r.leaf.kind = 0 ∨ r.leaf.kind = 4) ∧ Lists D a b ∧ n = (a + if D.listSign = c then 0 else 1) ∧ m = b + 1
theorem closeLeaf_two {I D : Cn} {l : Of} {ps : List Pl} (h : l.kind = 0 ∨ l.kind = 4) : ∃ J, closeLeaf ⟨[I, D], l, ps⟩ = ⟨[J, D], noLeaf, ps⟩ ∧ J.kind = I.kind ∧ J.sign = I.sign ∧ J.col = I.col := by
  unfold closeLeaf
  rcases h with h | h
  · rw [if_neg (by show l.kind ≠ 4; omega), if_neg (by show l.kind ≠ 7; omega)]
    exact ⟨I, rfl, rfl, rfl, rfl⟩
  · rw [if_pos h]
    exact ⟨I.add (paraTree l), rfl, rfl, rfl, rfl⟩
theorem closeTo_two {c : UInt8} {n m : Nat} {r : Rd} (h : Open c n m r) (h0 : c ≠ 0) : ∃ D, closeTo 1 r = ⟨[D], noLeaf, r.places⟩ ∧ Lists D n m ∧ D.listSign = c := by
  obtain ⟨I, D, a, b, h1, h2, h3, h4, h5, h6, rfl, rfl⟩ := h
  obtain ⟨row, leaf, ps⟩ := r
  simp only at h1 h5
  subst h1
  obtain ⟨J, j1, j2, j3, _⟩ := closeLeaf_two (D := D) (ps := ps) (I := I) h5
  obtain ⟨g1, g2⟩ := lists_item h6 (I := J) (by omega) (by rw [j3, h3]; exact h0)
  rw [j3, h3] at g1 g2
  refine ⟨give J D, ?_, g1, g2⟩
  unfold closeTo
  rw [j1]
  rfl
theorem take_some {c : Cn} {r : List Cn} {s q : List UInt8} (h : c.take s = some q) : take (c :: r) s = ((take r q).1 + 1, (take r q).2) := by rw [take, h]
theorem take_stop {c : Cn} {r : List Cn} {s : List UInt8} (h : c.take s = none) : take (c :: r) s = (0, s) := by rw [take, h]
/-- an item's line, in a document -/
theorem item_line {D : Cn} {c : UInt8} (hc : Sign c) (n : Nat) (ps : List Pl) (r : Rd) (hr : take r.row.reverse [c, 32, 119] = (1, [c, 32, 119])) (h7 : r.leaf.kind ≠ 7) (hcl : closeTo 1 r = ⟨[D], noLeaf, ps⟩) : takeLine n [c, 32, 119] r = ⟨[⟨3, n, [], c, 2, none⟩, D], ⟨4, n, [[119]], noOp, false⟩, ps⟩ := by
  have hw : Word [119] := ⟨by simp, fun b hb => by simp at hb; subst hb; decide⟩
  unfold takeLine
  rw [if_neg fun h => h7 h.1, hr]
  rw [show (41 - (1, [c, 32, 119]).1) = 39 + 1 from rfl]
  rw [begin, (item_of hc).1]
  simp only
  rw [begin_none (opener_word hw), hcl]
  simp only
  rw [leafLine_word hw, if_neg (by simp [push, noLeaf])]
  rfl
theorem take_item {c : UInt8} {n m : Nat} {r : Rd} (h : Open c n m r) {d : UInt8} (hd : Sign d) : take r.row.reverse [d, 32, 119] = (1, [d, 32, 119]) ∧ r.leaf.kind ≠ 7 ∧ take r.row.reverse [] = (2, []) := by
  obtain ⟨I, D, a, b, h1, h2, h3, h4, h5, h6, _⟩ := h
  obtain ⟨_, g2, g3⟩ := item_of hd
  rw [h1]
  refine ⟨?_, by omega, ?_⟩
  · show take [D, I] _ = _
    have : I.take [d, 32, 119] = none := by
      unfold Cn.take
      rw [if_neg (by omega), if_pos h2, if_neg (by rw [g2]; simp), if_pos (by rw [g3, h4]; omega)]
    rw [take_some (take_doc h6.kind _), take_stop this]
  · show take [D, I] _ = _
    have : I.take [] = some [] := by
      unfold Cn.take
      rw [if_neg (by omega), if_pos h2, if_pos (by kernel_rfl)]
    rw [take_some (take_doc h6.kind _), take_some this]
    rfl
theorem open_item {c : UInt8} {n m : Nat} {r : Rd} (h : Open c n m r) (h0 : c ≠ 0) {d : UInt8} (hd : Sign d) (ln : Nat) : Open d (n + if c = d then 0 else 1) (m + 1) (takeLine ln [d, 32, 119] r) := by
  obtain ⟨h1, h2, _⟩ := take_item h hd
  obtain ⟨D, h3, h4, h5⟩ := closeTo_two h h0
  rw [item_line hd ln _ r h1 h2 h3]
  exact ⟨_, D, n, m, rfl, rfl, rfl, rfl, .inr rfl, h4, by rw [h5], rfl⟩
theorem open_empty {c : UInt8} {n m : Nat} {r : Rd} (h : Open c n m r) (ln : Nat) : Open c n m (takeLine ln [] r) := by
  obtain ⟨_, h2, h3⟩ := take_item h (d := 45) (.inl rfl)
  rw [takeLine_plain h3 (by kernel_rfl) h2]
  obtain ⟨I, D, a, b, g1, g2, g3, g4, g5, g6, g7, g8⟩ := h
  obtain ⟨row, leaf, ps⟩ := r
  simp only at g1 g5
  subst g1
  obtain ⟨J, j1, j2, j3, j4⟩ := closeLeaf_two (D := D) (ps := ps) (I := I) g5
  unfold leafLine
  rw [if_pos (by kernel_rfl)]
  unfold closeTo
  rw [j1]
  exact ⟨J, D, a, b, rfl, by omega, by rw [j3]; exact g3, by omega, .inl rfl, g6, g7, g8⟩
theorem open_first {d : UInt8} (hd : Sign d) (ln : Nat) : Open d 1 1 (takeLine ln [d, 32, 119] start) := by
  rw [item_line (D := D0) hd ln [] start (take_one (D := D0) rfl _) (by decide) rfl]
  refine ⟨_, D0, 0, 0, rfl, rfl, rfl, rfl, .inr rfl, ⟨rfl, fun t ht => by simp [D0, Cn.all, listTree] at ht, rfl, rfl⟩, ?_, rfl⟩
  have : ¬ D0.listSign = d := by
    unfold D0 Cn.listSign
    rcases hd with rfl | rfl | rfl <;> decide
  rw [if_neg this]

/-- the document's lines, the lists and the items of what bytes say -/
def sgn (k : UInt8) : UInt8 := if k.toNat % 3 = 0 then 45 else if k.toNat % 3 = 1 then 42 else 43
theorem sgn_sign (k : UInt8) : Sign (sgn k) := by
  unfold sgn Sign
  split
  · exact .inl rfl
  · split
    · exact .inr (.inl rfl)
    · exact .inr (.inr rfl)
theorem sign_ne {c : UInt8} (h : Sign c) : c ≠ 0 := by rcases h with rfl | rfl | rfl <;> decide
def gap (k : UInt8) : Bool := k.toNat / 8 % 2 == 1
def itemLines (k : UInt8) : List (List UInt8) := [sgn k, 32, 119] :: if gap k then [[]] else []
/-- the sign of the last item, how many lists, how many items -/
structure Cnt where
  last : UInt8
  lists : Nat
  items : Nat
def Cnt.more (k : UInt8) (x : Cnt) : Cnt := ⟨sgn k, x.lists + (if sgn k = x.last then 0 else 1), x.items + 1⟩
def cnt (ks : List UInt8) : Cnt := ks.foldl (fun x k => x.more k) ⟨0, 0, 0⟩
def St (x : Cnt) (r : Rd) : Prop := x = ⟨0, 0, 0⟩ ∧ r = start ∨ Sign x.last ∧ Open x.last x.lists x.items r
theorem st_more {x : Cnt} {r : Rd} (h : St x r) (k : UInt8) (n : Nat) : St (x.more k) (lines (itemLines k) n r) := by
  have hs := sgn_sign k
  have h1 : Open (sgn k) (x.more k).lists (x.more k).items (takeLine n [sgn k, 32, 119] r) := by
    rcases h with ⟨rfl, rfl⟩ | ⟨h1, h2⟩
    · have := open_first hs n
      unfold Cnt.more
      simp only
      rw [if_neg (sign_ne hs)]
      exact this
    · have := open_item h2 (sign_ne h1) hs n
      unfold Cnt.more
      simp only
      by_cases he : sgn k = x.last
      · rw [if_pos he]; rw [if_pos he.symm] at this; exact this
      · rw [if_neg he]; rw [if_neg (fun e => he e.symm)] at this; exact this
  refine .inr ⟨hs, ?_⟩
  unfold itemLines
  rw [lines]
  cases hg : gap k with
  | false => exact h1
  | true =>
    rw [if_pos rfl, lines, lines]
    exact open_empty h1 _
theorem st_all : ∀ (ks : List UInt8) (x : Cnt) (n : Nat) (r : Rd), St x r → St (ks.foldl (fun x k => x.more k) x) (lines (ks.flatMap itemLines) n r)
  | [], _, _, _, h => h
  | k :: t, x, n, r, h => by
    rw [List.flatMap_cons, lines_append, List.foldl_cons]
    exact st_all t _ _ _ (st_more h k n)
/-- the tree has as many lists, of as many items -/
theorem tree_items (ks : List UInt8) : ∃ D, tree (ks.flatMap itemLines) = D.tree ∧ Lists D (cnt ks).lists (cnt ks).items := by
  have h := st_all ks ⟨0, 0, 0⟩ 0 start (.inl ⟨rfl, rfl⟩)
  rcases h with ⟨h1, h2⟩ | ⟨h1, h2⟩
  · refine ⟨D0, tree_of (l := noLeaf) (ps := []) (by rw [h2]; rfl), ?_⟩
    unfold cnt
    rw [h1]
    exact ⟨rfl, fun t ht => by simp [D0, Cn.all, listTree] at ht, rfl, rfl⟩
  · obtain ⟨D, h3, h4, _⟩ := closeTo_two h2 (sign_ne h1)
    exact ⟨D, tree_of h3, h4⟩
end Go.Proofs.YtmbcddehacfpgaaDoor.Pb
