/- Documents of words, line by line: plain mathematics. No program is spoken of here. Words line by line, four documents of them: plain mathematics, and a document's bytes. No program is spoken of here. -/
import Derived.Test.YtmbcddehacfpgaaDoorMr02
import Derived.Test.YtmbcddehacfpgaaDoorMr13
import Derived.Test.YtmbcddehacfpgaaDoorMp01
import Derived.KernelRfl
namespace Go.Proofs.YtmbcddehacfpgaaDoor.Pb
open Go.Proofs.YtmbcddehacfpgaaDoor.Cl (strip isGap lead gaps)
open Go.Proofs.YtmbcddehacfpgaaDoor.Fn (cl rs emp trim front back)
open Go.Proofs.YtmbcddehacfpgaaDoor.Bk (Tree Pl)

/-- signs that may be shown, each of one byte -/
def Shown (s : List UInt8) : Prop := ∀ b ∈ s, 32 ≤ b.toNat ∧ b.toNat ≤ 126
theorem enc_shown {s : List UInt8} (h : Shown s) : Ru.enc (s.map (·.toNat)) = s := by
  induction s with
  | nil => rfl
  | cons b r ih =>
    have hb := h b (by simp)
    rw [List.map_cons, Ru.enc_cons, ih fun x hx => h x (by simp [hx])]
    rw [Lib.encodeRune, Lib.encodeRuneZ_one (by omega) (by omega)]
    simp
theorem text_shown {s : List UInt8} (h : Shown s) : Ru.text s = s := by
  have h2 := enc_shown h
  have := Ru.text_enc (X := s.map (·.toNat)) (fun x hx => by
    obtain ⟨b, hb, rfl⟩ := List.mem_map.1 hx
    have := h b hb
    unfold Ru.vr; omega) (fun x hx => by
    obtain ⟨b, hb, rfl⟩ := List.mem_map.1 hx
    have := h b hb
    omega)
  rwa [h2] at this
theorem shown_end {s : List UInt8} (h : Shown s) : ∀ b ∈ s, Ln.isEnd b = false := by
  intro b hb
  have := h b hb
  unfold Ln.isEnd
  have h1 : b ≠ 10 := by rintro rfl; revert this; decide
  have h2 : b ≠ 13 := by rintro rfl; revert this; decide
  simp [h1, h2]
/-- lines of such signs are read as they are -/
theorem lines_shown {ls : List (List UInt8)} (h : ∀ s ∈ ls, Shown s) (hl : (Ln.join ls [10]).length ≤ 65536) : (Ln.texts ((Ln.join ls [10]).take 65536) 0).map Ru.text = ls := by
  rw [List.take_of_length_le hl]
  have := Ln.tx_join_ten ls fun s hs => shown_end (h s hs)
  unfold Ln.tx at this
  rw [this]
  have : ∀ l : List (List UInt8), (∀ s ∈ l, Shown s) → l.map Ru.text = l := fun l => by
    induction l with
    | nil => exact fun _ => rfl
    | cons s r ih => intro h; rw [List.map_cons, text_shown (h s (by simp)), ih fun x hx => h x (by simp [hx])]
  exact this ls h

/-- small letters, one at least -/
def Word (s : List UInt8) : Prop := s ≠ [] ∧ ∀ b ∈ s, 97 ≤ b.toNat ∧ b.toNat ≤ 122
theorem word_shown {s : List UInt8} (h : Word s) : Shown s := fun b hb => by have := h.2 b hb; omega
theorem letter_ne {b : UInt8} (h : 97 ≤ b.toNat ∧ b.toNat ≤ 122) (c : UInt8) (hc : c.toNat < 97 ∨ 122 < c.toNat) : b ≠ c := by rintro rfl; omega
theorem letter_gap {b : UInt8} (h : 97 ≤ b.toNat ∧ b.toNat ≤ 122) : isGap b = false := by
  unfold isGap
  simp [letter_ne h 32 (by decide), letter_ne h 9 (by decide)]
theorem back_word {s : List UInt8} (h : ∀ b ∈ s, isGap b = false) : back s = s := by
  induction s with
  | nil => rfl
  | cons b r ih => rw [Fn.back_word _ (h b (by simp)), ih fun x hx => h x (by simp [hx])]
theorem word_flat {s : List UInt8} (h : Word s) : lead Cl.inf s 0 = (0, 0) ∧ cl s = 0 ∧ rs s = s := by
  have h1 : lead Cl.inf s 0 = (0, 0) := by
    cases s with
    | nil => rfl
    | cons b r => exact Cl.lead_word _ (letter_gap (h.2 b (by simp)))
  refine ⟨h1, ?_, ?_⟩
  · unfold Fn.cl; rw [h1]
  · unfold Fn.rs; rw [h1]; rfl
theorem word_kind {s : List UInt8} (h : Word s) : emp s = false ∧ Lf.heading s = none ∧ Lf.brk s = false ∧ Fn.begins s = none ∧ Lf.quote s = none ∧ Lf.item s = none ∧ trim s = s := by
  obtain ⟨h1, h2, h3⟩ := word_flat h
  obtain ⟨b, r, rfl⟩ : ∃ b r, s = b :: r := by cases s with
    | nil => exact absurd rfl h.1
    | cons b r => exact ⟨b, r, rfl⟩
  have hb := h.2 b (by simp)
  have hr : ∀ c : UInt8, c.toNat < 97 ∨ 122 < c.toNat → Fn.run c (b :: r) = 0 := fun c hc => Fn.run_stop _ (letter_ne hb c hc)
  refine ⟨?_, ?_, ?_, ?_, ?_, ?_, ?_⟩
  · unfold Fn.emp; rw [h1]; simp
  · unfold Lf.heading
    rw [h3, hr 35 (by decide), if_neg (by omega)]
  · rw [Lf.brk_cons h3 (by omega)]
    have : Lf.ruler b = false := by
      unfold Lf.ruler
      simp [letter_ne hb 42 (by decide), letter_ne hb 45 (by decide), letter_ne hb 95 (by decide)]
    rw [this]; rfl
  · refine Fn.begins_no h3 fun hh => ?_
    rcases hh.2.1 with e | e
    · exact letter_ne hb 96 (by decide) e
    · exact letter_ne hb 126 (by decide) e
  · unfold Lf.quote
    rw [h3]
    exact if_neg fun hh => letter_ne hb 62 (by decide) hh.2
  · unfold Lf.item
    rw [h3]
    refine if_neg fun hh => ?_
    have : Lf.bullet b = false := by
      unfold Lf.bullet
      simp [letter_ne hb 42 (by decide), letter_ne hb 45 (by decide), letter_ne hb 43 (by decide)]
    rw [this] at hh
    exact absurd hh.2.1 (by simp)
  · unfold Fn.trim
    rw [Fn.front_word _ (letter_gap hb), back_word fun x hx => letter_gap (h.2 x hx)]
theorem opener_word {s : List UInt8} (h : Word s) : Bk.opener s = none := by
  obtain ⟨_, _, _, _, h5, h6, _⟩ := word_kind h
  unfold Bk.opener
  rw [h5, h6]
theorem begin_none {ln m k : Nat} {r : Rd} {s : List UInt8} (h : Bk.opener s = none) : begin ln m k r s = (r, k, s) := by
  cases m with
  | zero => rfl
  | succ m => rw [begin, h]
theorem takeLine_plain {n k : Nat} {r : Rd} {s q : List UInt8} (ht : take r.row.reverse s = (k, q)) (ho : Bk.opener q = none) (h7 : r.leaf.kind ≠ 7) : takeLine n s r = leafLine n k q r := by
  unfold takeLine
  rw [if_neg fun h => h7 h.1, ht, begin_none ho]
theorem leafLine_word {n k : Nat} {r : Rd} {s : List UInt8} (h : Word s) : leafLine n k s r = if r.leaf.kind = 4 then { r with leaf := { r.leaf with lines := r.leaf.lines ++ [s] } } else { closeTo k r with leaf := ⟨4, n, [s], noOp, false⟩ } := by
  obtain ⟨h1, h2, h3, h4, _, _, h7⟩ := word_kind h
  unfold leafLine
  rw [if_neg (by rw [h1]; simp), h2]
  simp only
  rw [if_neg (by rw [h3]; simp), h4]
  simp only
  rw [h7]
theorem words_more : ∀ (ws : List (List UInt8)) (n : Nat) (r : Rd), (∀ s ∈ ws, Word s) → r.leaf.kind = 4 → (∀ s, Word s → ∃ k, take r.row.reverse s = (k, s)) → lines ws n r = { r with leaf := { r.leaf with lines := r.leaf.lines ++ ws } }
  | [], _, r, _, _, _ => by rw [lines, List.append_nil]
  | s :: t, n, r, hw, h4, ht => by
    obtain ⟨k, hk⟩ := ht s (hw s (by simp))
    rw [lines, takeLine_plain hk (opener_word (hw s (by simp))) (by omega), leafLine_word (hw s (by simp)), if_pos h4]
    rw [words_more t (n + 1) { r with leaf := { r.leaf with lines := r.leaf.lines ++ [s] } } (fun x hx => hw x (by simp [hx])) h4 ht]
    simp only [List.append_assoc, List.cons_append, List.nil_append]
theorem take_doc {D : Cn} (h : D.kind = 0) (s : List UInt8) : D.take s = some s := by
  unfold Cn.take
  rw [if_neg (by omega), if_neg (by omega)]
theorem take_one {D : Cn} (h : D.kind = 0) (s : List UInt8) : take [D] s = (1, s) := by
  rw [take, take_doc h]; rfl
theorem closeTo_done (D : Cn) (ps : List Pl) : closeTo 1 ⟨[D], noLeaf, ps⟩ = ⟨[D], noLeaf, ps⟩ := rfl
theorem closeTo_para (D : Cn) (n : Nat) (ws : List (List UInt8)) (ps : List Pl) : closeTo 1 ⟨[D], ⟨4, n, ws, noOp, false⟩, ps⟩ = ⟨[D.add (.mk 4 0 (joinNl ws) [] n [])], noLeaf, ps⟩ := rfl
theorem words_run {D : Cn} (h : D.kind = 0) (n : Nat) (ps : List Pl) {ws : List (List UInt8)} (hn : ws ≠ []) (hw : ∀ s ∈ ws, Word s) : lines ws n ⟨[D], noLeaf, ps⟩ = ⟨[D], ⟨4, n, ws, noOp, false⟩, ps⟩ := by
  cases ws with
  | nil => exact absurd rfl hn
  | cons s t =>
    rw [lines, takeLine_plain (r := ⟨[D], noLeaf, ps⟩) (take_one h s) (opener_word (hw s (by simp))) (by simp [noLeaf]), leafLine_word (hw s (by simp)), if_neg (by simp [noLeaf]), closeTo_done]
    rw [words_more t (n + 1) ⟨[D], ⟨4, n, [s], noOp, false⟩, ps⟩ (fun x hx => hw x (by simp [hx])) rfl (fun s _ => ⟨1, take_one h s⟩)]
    rfl
theorem lines_append : ∀ (a b : List (List UInt8)) (n : Nat) (r : Rd), lines (a ++ b) n r = lines b (n + a.length) (lines a n r)
  | [], b, n, r => rfl
  | s :: t, b, n, r => by
    rw [List.cons_append, lines, lines_append t b (n + 1), lines, List.length_cons, show n + 1 + t.length = n + (t.length + 1) from by omega]
def D0 : Cn := ⟨0, 0, [], 0, 0, none⟩
abbrev para (ws : List (List UInt8)) (n : Nat) : Tree := .mk 4 0 (joinNl ws) [] n []
theorem tree_of {ls : List (List UInt8)} {c : Cn} {l : Of} {ps : List Pl} (h : closeTo 1 (lines ls 0 start) = ⟨[c], l, ps⟩) : tree ls = c.tree := by
  unfold tree read
  rw [h]
/-- words are one paragraph -/
theorem tree_words {ws : List (List UInt8)} (hn : ws ≠ []) (hw : ∀ s ∈ ws, Word s) : tree ws = .mk 0 0 [] [] 0 [para ws 0] := by
  refine tree_of (c := D0.add (para ws 0)) (l := noLeaf) (ps := []) ?_
  have := words_run (D := D0) rfl 0 [] hn hw
  rw [show start = ⟨[D0], noLeaf, []⟩ from rfl, this, closeTo_para]
theorem blank_line (D : Cn) (h : D.kind = 0) (n m : Nat) (ws : List (List UInt8)) (ps : List Pl) : takeLine n [32, 32, 32] ⟨[D], ⟨4, m, ws, noOp, false⟩, ps⟩ = ⟨[D.add (para ws m)], noLeaf, ps⟩ := by
  rw [takeLine_plain (r := ⟨[D], ⟨4, m, ws, noOp, false⟩, ps⟩) (take_one h _) (by kernel_rfl) (by simp)]
  unfold leafLine
  rw [if_pos (by kernel_rfl), closeTo_para]
theorem head_line (D : Cn) (h : D.kind = 0) (n m : Nat) (ws : List (List UInt8)) (ps : List Pl) : takeLine n [35, 32, 104] ⟨[D], ⟨4, m, ws, noOp, false⟩, ps⟩ = ⟨[(D.add (para ws m)).add (.mk 5 1 [104] [] n [])], noLeaf, ps⟩ := by
  rw [takeLine_plain (r := ⟨[D], ⟨4, m, ws, noOp, false⟩, ps⟩) (take_one h _) (by kernel_rfl) (by simp)]
  unfold leafLine
  rw [if_neg (by rw [show emp [35, 32, 104] = false by kernel_rfl]; simp), show Lf.heading [35, 32, 104] = some (1, [104]) by kernel_rfl]
  simp only
  rw [closeTo_para]
  rfl
/-- with an empty line between them they are two -/
theorem tree_two {ws : List (List UInt8)} (hn : ws ≠ []) (hw : ∀ s ∈ ws, Word s) : tree (ws ++ [32, 32, 32] :: ws) = .mk 0 0 [] [] 0 [para ws 0, para ws (ws.length + 1)] := by
  refine tree_of (c := (D0.add (para ws 0)).add (para ws (ws.length + 1))) (l := noLeaf) (ps := []) ?_
  rw [lines_append, show start = ⟨[D0], noLeaf, []⟩ from rfl, words_run (D := D0) rfl 0 [] hn hw, lines, blank_line D0 rfl, words_run (D := D0.add (para ws 0)) rfl _ [] hn hw, closeTo_para, Nat.zero_add]
/-- a heading stands between them -/
theorem tree_head {ws : List (List UInt8)} (hn : ws ≠ []) (hw : ∀ s ∈ ws, Word s) : tree (ws ++ [35, 32, 104] :: ws) = .mk 0 0 [] [] 0 [para ws 0, .mk 5 1 [104] [] ws.length [], para ws (ws.length + 1)] := by
  refine tree_of (c := ((D0.add (para ws 0)).add (.mk 5 1 [104] [] ws.length [])).add (para ws (ws.length + 1))) (l := noLeaf) (ps := []) ?_
  rw [lines_append, show start = ⟨[D0], noLeaf, []⟩ from rfl, words_run (D := D0) rfl 0 [] hn hw, lines, head_line D0 rfl, words_run (D := (D0.add (para ws 0)).add (.mk 5 1 [104] [] (0 + ws.length) [])) rfl _ [] hn hw, closeTo_para, Nat.zero_add]
theorem quote_word (s : List UInt8) : Bk.opener (62 :: 32 :: s) = some (none, s) := by
  have h1 : lead Cl.inf (62 :: 32 :: s) 0 = (0, 0) := Cl.lead_word _ (by rfl)
  have hq : Lf.quote (62 :: 32 :: s) = some s := by
    unfold Lf.quote
    have h2 : rs (62 :: 32 :: s) = 62 :: 32 :: s := by unfold Fn.rs; rw [h1]; rfl
    have h3 : cl (62 :: 32 :: s) = 0 := by unfold Fn.cl; rw [h1]
    rw [h2]
    simp only
    rw [if_pos ⟨by omega, by trivial⟩]
    have h4 : lead 1 (32 :: s) 0 = (1, 1) := by
      rw [Cl.lead_go _ (by decide) (by rfl), Cl.lead_full _ (by decide)]
      rfl
    unfold Cl.strip
    rw [h4]
    rfl
  unfold Bk.opener
  rw [hq]
theorem quote_line {s : List UInt8} (h : Word s) : takeLine 0 (62 :: 32 :: s) ⟨[D0], noLeaf, []⟩ = ⟨[⟨1, 0, [], 0, 0, none⟩, D0], ⟨4, 0, [s], noOp, false⟩, []⟩ := by
  unfold takeLine
  rw [if_neg (by simp [noLeaf]), show (⟨[D0], noLeaf, []⟩ : Rd).row.reverse = [D0] from rfl, take_one (D := D0) rfl]
  rw [show (41 - (1, 62 :: 32 :: s).1) = 39 + 1 from rfl]
  rw [begin, quote_word s]
  simp only
  rw [begin_none (opener_word h), closeTo_done]
  simp only
  rw [leafLine_word h, if_neg (by simp [push, noLeaf])]
  rfl
/-- with > ahead of the first alone they are one still, in a quote -/
theorem tree_quote {s : List UInt8} {ws : List (List UInt8)} (hs : Word s) (hw : ∀ x ∈ ws, Word x) : tree ((62 :: 32 :: s) :: ws) = .mk 0 0 [] [] 0 [.mk 1 0 [] [] 0 [para (s :: ws) 0]] := by
  refine tree_of (c := D0.add (.mk 1 0 [] [] 0 [para (s :: ws) 0])) (l := noLeaf) (ps := []) ?_
  rw [lines, show start = ⟨[D0], noLeaf, []⟩ from rfl, quote_line hs, words_more ws 1 _ hw rfl (fun x hx => ⟨1, ?_⟩)]
  · rfl
  · show take [D0, ⟨1, 0, [], 0, 0, none⟩] x = (1, x)
    have : (⟨1, 0, [], 0, 0, none⟩ : Cn).take x = none := by
      unfold Cn.take
      rw [if_pos rfl, (word_kind hx).2.2.2.2.1]
    show (match D0.take x with | none => (0, x) | some q => ((take [⟨1, 0, [], 0, 0, none⟩] q).1 + 1, (take [⟨1, 0, [], 0, 0, none⟩] q).2)) = _
    rw [take_doc (D := D0) rfl]
    show ((match (⟨1, 0, [], 0, 0, none⟩ : Cn).take x with | none => (0, x) | some q => ((take [] q).1 + 1, (take [] q).2)).1 + 1, _) = _
    rw [this]
    show (0 + 1, (match (⟨1, 0, [], 0, 0, none⟩ : Cn).take x with | none => (0, x) | some q => ((take [] q).1 + 1, (take [] q).2)).2) = _
    rw [this]
end Go.Proofs.YtmbcddehacfpgaaDoor.Pb

namespace Go.Proofs.YtmbcddehacfpgaaDoor

/-- a word of two letters -/
def pword (x : Nat) : List UInt8 := [119, UInt8.ofNat (97 + x % 26)]
theorem pword_word (x : Nat) : Pb.Word (pword x) := by
  have h : x % 26 < 26 := Nat.mod_lt _ (by omega)
  refine ⟨by simp [pword], fun b hb => ?_⟩
  unfold pword at hb
  rcases List.mem_cons.1 hb with rfl | hb
  · decide
  · rw [List.mem_singleton.1 hb]
    have : (UInt8.ofNat (97 + x % 26)).toNat = 97 + x % 26 := by rw [UInt8.toNat_ofNat']; omega
    rw [this]; omega
def pwords (ws : List Nat) : List (List UInt8) := (ws.take 10).map pword ++ [[101, 110, 100]]
theorem pwords_word (ws : List Nat) : ∀ s ∈ pwords ws, Pb.Word s := by
  intro s hs
  rcases List.mem_append.1 hs with hs | hs
  · obtain ⟨x, _, rfl⟩ := List.mem_map.1 hs
    exact pword_word x
  · rw [List.mem_singleton.1 hs]
    exact ⟨by simp, fun b hb => by
      simp only [List.mem_cons, List.not_mem_nil, or_false] at hb
      rcases hb with rfl | rfl | rfl <;> decide⟩
theorem pwords_ne (ws : List Nat) : pwords ws ≠ [] := by simp [pwords]
theorem pwords_len (ws : List Nat) : (pwords ws).length ≤ 11 := by
  unfold pwords
  rw [List.length_append, List.length_map, List.length_take]
  simp only [List.length_cons, List.length_nil]; omega
theorem join_len {ls : List (List UInt8)} (h : ∀ s ∈ ls, s.length ≤ 3) : (Ln.join ls [10]).length ≤ 4 * ls.length := by
  induction ls with
  | nil => simp [Ln.join_nil]
  | cons s r ih =>
    rw [Ln.join_cons, List.length_append, List.length_append, List.length_cons]
    have h1 := h s (by simp)
    have h2 := ih fun x hx => h x (by simp [hx])
    simp only [List.length_cons, List.length_nil]; omega
theorem pwords_short (ws : List Nat) : ∀ s ∈ pwords ws, s.length ≤ 3 := by
  intro s hs
  rcases List.mem_append.1 hs with hs | hs
  · obtain ⟨x, _, rfl⟩ := List.mem_map.1 hs
    simp [pword]
  · rw [List.mem_singleton.1 hs]; simp
theorem join_append (a b : List (List UInt8)) (e : List UInt8) : Ln.join (a ++ b) e = Ln.join a e ++ Ln.join b e := by simp [Ln.join]
theorem tree_lines {ls : List (List UInt8)} (h : ∀ s ∈ ls, Pb.Shown s) (hl : (Ln.join ls [10]).length ≤ 65536) : Pb.tree ((Ln.texts ((Ln.join ls [10]).take 65536) 0).map Ru.text) = Pb.tree ls := by
  rw [Pb.lines_shown h hl]
theorem shown_blank : Pb.Shown [32, 32, 32] := fun b hb => by
  simp only [List.mem_cons, List.not_mem_nil, or_false, or_self] at hb
  rw [hb]; decide
theorem shown_head : Pb.Shown [35, 32, 104] := fun b hb => by
  simp only [List.mem_cons, List.not_mem_nil, or_false] at hb
  rcases hb with rfl | rfl | rfl <;> decide
abbrev docTree (l : List UInt8) : Bk.Tree := Pb.tree ((Ln.texts (l.take 65536) 0).map Ru.text)
/-- the four documents -/
theorem para_trees (ws : List Nat) : let L := pwords ws; let S := Ln.join L [10]; let J := Pb.joinNl L
    docTree S = .mk 0 0 [] [] 0 [.mk 4 0 J [] 0 []] ∧
    docTree (S ++ [32, 32, 32, 10] ++ S) = .mk 0 0 [] [] 0 [.mk 4 0 J [] 0 [], .mk 4 0 J [] (L.length + 1) []] ∧
    docTree ([62, 32] ++ S) = .mk 0 0 [] [] 0 [.mk 1 0 [] [] 0 [.mk 4 0 J [] 0 []]] ∧
    docTree (S ++ [35, 32, 104, 10] ++ S) = .mk 0 0 [] [] 0 [.mk 4 0 J [] 0 [], .mk 5 1 [104] [] L.length [], .mk 4 0 J [] (L.length + 1) []] := by
  intro L S J
  have hw : ∀ s ∈ L, Pb.Word s := pwords_word ws
  have hn : L ≠ [] := pwords_ne ws
  have hsh : ∀ s ∈ L, Pb.Shown s := fun s hs => Pb.word_shown (hw s hs)
  have hlen : S.length ≤ 44 := by
    have h1 := join_len (pwords_short ws)
    have h2 := pwords_len ws
    show (Ln.join (pwords ws) [10]).length ≤ 44
    omega
  refine ⟨?_, ?_, ?_, ?_⟩
  · show Pb.tree ((Ln.texts ((Ln.join L [10]).take 65536) 0).map Ru.text) = _
    rw [tree_lines hsh (by show S.length ≤ 65536; omega), Pb.tree_words hn hw]
  · have e : S ++ [32, 32, 32, 10] ++ S = Ln.join (L ++ [32, 32, 32] :: L) [10] := by
      rw [join_append, Ln.join_cons, List.append_assoc]; rfl
    unfold docTree
    rw [e, tree_lines (fun s hs => ?_) (by rw [← e]; simp only [List.length_append, List.length_cons, List.length_nil]; omega), Pb.tree_two hn hw]
    rcases List.mem_append.1 hs with hs | hs
    · exact hsh s hs
    · rcases List.mem_cons.1 hs with rfl | hs
      · exact shown_blank
      · exact hsh s hs
  · obtain ⟨w, t, hwt⟩ : ∃ w t, L = w :: t := by cases hL : L with
      | nil => exact absurd hL hn
      | cons w t => exact ⟨w, t, rfl⟩
    have e : [62, 32] ++ S = Ln.join ((62 :: 32 :: w) :: t) [10] := by
      show [62, 32] ++ Ln.join L [10] = _
      rw [hwt, Ln.join_cons, Ln.join_cons]; rfl
    rw [hwt] at hw hsh
    have hsw := hsh w (by simp)
    unfold docTree
    rw [e, tree_lines (fun s hs => ?_) (by rw [← e]; simp only [List.length_append, List.length_cons, List.length_nil]; omega), Pb.tree_quote (hw w (by simp)) (fun x hx => hw x (by simp [hx]))]
    · show _ = Bk.Tree.mk 0 0 [] [] 0 [.mk 1 0 [] [] 0 [.mk 4 0 (Pb.joinNl L) [] 0 []]]
      rw [hwt]
    · rcases List.mem_cons.1 hs with rfl | hs
      · intro b hb
        rcases List.mem_cons.1 hb with rfl | hb
        · decide
        · rcases List.mem_cons.1 hb with rfl | hb
          · decide
          · exact hsw b hb
      · exact hsh s (by simp [hs])
  · have e : S ++ [35, 32, 104, 10] ++ S = Ln.join (L ++ [35, 32, 104] :: L) [10] := by
      rw [join_append, Ln.join_cons, List.append_assoc]; rfl
    unfold docTree
    rw [e, tree_lines (fun s hs => ?_) (by rw [← e]; simp only [List.length_append, List.length_cons, List.length_nil]; omega), Pb.tree_head hn hw]
    rcases List.mem_append.1 hs with hs | hs
    · exact hsh s hs
    · rcases List.mem_cons.1 hs with rfl | hs
      · exact shown_head
      · exact hsh s hs
/-- the texts so far, each with its end, the last one without -/
theorem joinNl_last : ∀ (L : List (List UInt8)) (s : List UInt8), Pb.joinNl (L ++ [s]) = Ln.join L [10] ++ s
  | [], s => rfl
  | [x], s => by show x ++ 10 :: s = _; rw [Ln.join_cons, Ln.join_nil]; simp
  | x :: y :: r, s => by
    have := joinNl_last (y :: r) s
    show x ++ 10 :: Pb.joinNl ((y :: r) ++ [s]) = _
    rw [this, Ln.join_cons x]; simp
end Go.Proofs.YtmbcddehacfpgaaDoor
