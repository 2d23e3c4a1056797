/- Plain mathematics of infos: what is written, part by part; the document's value and the program's are one. No program is spoken of here. -/
import Derived.Test.YtfppfaliepkhgaaDoorAtWriteP
namespace Go.Proofs.YtfppfaliepkhgaaDoor
open Go.RowKit

/-- an ASCII byte of a text is a rune of it -/
theorem At.byte_rune : ∀ (l : List UInt8), ∀ b ∈ l, b.toNat < 128 → b.toNat ∈ Ru.runes l := by
  refine Ru.bytes_ind (by intro b hb; cases hb) ?_
  intro l hl ih b hb hlow
  rw [Ru.runes_step hl, List.mem_cons]
  obtain ⟨_, hle, hct⟩ := Ru.rune_bytes hl
  have hsplit := List.take_append_drop (Lib.decodeL l).2 l
  rw [← hsplit, List.mem_append] at hb
  rcases hb with hb | hb
  · left
    obtain ⟨j, hj, he⟩ := List.getElem_of_mem hb
    rw [List.length_take] at hj
    rw [List.getElem_take] at he
    rcases Nat.eq_zero_or_pos j with rfl | hp
    · rcases l with _ | ⟨c, r⟩
      · exact absurd rfl hl
      · simp only [List.getElem_cons_zero] at he
        subst he
        rw [low_rune r hlow]
    · have := hct j hp (by omega)
      rw [List.getD_eq_getElem?_getD, List.getElem?_eq_getElem (by omega), Option.getD_some, he] at this
      omega
  · exact .inr (ih b hb hlow)
theorem At.bare_nogap {l : List UInt8} (h : At.bare l = true) : ∀ b ∈ l, Cl.isGap b = false ∧ b ≠ 34 ∧ b ≠ 61 ∧ b ≠ 92 := by
  intro b hb
  unfold At.bare at h
  rw [Bool.and_eq_true, List.all_eq_true] at h
  have key : ∀ c : UInt8, c ∈ l → c.toNat < 128 → At.okRune c.toNat = true := fun c hc hl => h.1 _ (At.byte_rune l c hc hl)
  refine ⟨?_, ?_, ?_, ?_⟩
  · cases hg : Cl.isGap b with
    | false => rfl
    | true =>
      unfold Cl.isGap at hg
      rw [Bool.or_eq_true, beq_iff_eq, beq_iff_eq] at hg
      rcases hg with rfl | rfl
      · have := key 32 hb (by decide); revert this; decide
      · have := key 9 hb (by decide); revert this; decide
  · rintro rfl; have := key 34 hb (by decide); revert this; decide
  · rintro rfl; have := key 61 hb (by decide); revert this; decide
  · rintro rfl; have := key 92 hb (by decide); revert this; decide
theorem At.value_eq (t : List UInt8) : At.value t = At.pval t := by
  unfold At.value At.pval
  by_cases h : At.bare t = true
  · have hn := At.bare_nogap h
    rw [if_pos h, if_pos ⟨h, fun h32 => absurd (hn 32 h32).1 (by decide), fun h9 => absurd (hn 9 h9).1 (by decide)⟩]
  · rw [if_neg h, if_neg (fun hh => h hh.1)]

/-- the parts of what is written -/
def At.po (p : List UInt8 × List UInt8) : List (List UInt8) := if p.2 = [] then [] else [p.1 ++ 61 :: At.value p.2]
def At.trio (a : At.Attr) : List (List UInt8 × List UInt8) := [(At.wName, a.name), (At.wFile, a.file), (At.wComment, a.style)]
def At.parts (a : At.Attr) : List (List UInt8) :=
  (if a.lang = [] then [] else [a.lang]) ++ (At.trio a).flatMap At.po ++ (if a.append = true then [At.wAppend] else []) ++ (if a.noline = true then [At.wNoline] else [])
theorem At.fold_po (t : List UInt8) (k x : List UInt8) : (At.po (k, x)).foldl At.add t = At.addPair t k x := by
  unfold At.po At.addPair
  by_cases h : x = []
  · simp [h]
  · simp [h, At.value_eq]
theorem At.compose_parts (a : At.Attr) : At.compose a = (At.parts a).foldl At.add [] := by
  unfold At.parts At.compose At.flags
  rw [List.foldl_append, List.foldl_append, List.foldl_append]
  simp only [At.trio, List.flatMap_cons, List.flatMap_nil, List.append_nil, List.foldl_append, At.fold_po]
  have e1 : (if a.lang = [] then [] else [a.lang]).foldl At.add [] = At.add [] a.lang := by
    by_cases h : a.lang = []
    · simp [h, At.add]
    · simp [h]
  rw [e1]
  cases a.append <;> cases a.noline <;> simp [At.add_nil]
theorem At.parts_ne {a : At.Attr} : ∀ x ∈ At.parts a, x ≠ [] := by
  intro x hx
  unfold At.parts At.trio At.po at hx
  simp only [List.mem_append, List.flatMap_cons, List.flatMap_nil] at hx
  rcases hx with ((hx | hx) | hx) | hx
  · split at hx
    · cases hx
    · rename_i h; simp at hx; rw [hx]; exact h
  · have key : ∀ (k t : List UInt8), x ∈ (if t = [] then [] else [k ++ 61 :: At.value t]) → x ≠ [] := by
      intro k t h
      split at h
      · cases h
      · simp at h; rw [h]; simp
    rcases hx with hx | hx | hx | hx
    · exact key _ _ hx
    · exact key _ _ hx
    · exact key _ _ hx
    · cases hx
  · split at hx
    · simp at hx; rw [hx]; decide
    · cases hx
  · split at hx
    · simp at hx; rw [hx]; decide
    · cases hx
theorem At.parts_len (a : At.Attr) : (At.parts a).length ≤ 6 := by
  have key : ∀ p, (At.po p).length ≤ 1 := by intro p; unfold At.po; split <;> simp
  have k1 := key (At.wName, a.name)
  have k2 := key (At.wFile, a.file)
  have k3 := key (At.wComment, a.style)
  unfold At.parts At.trio
  simp only [List.length_append, List.flatMap_cons, List.flatMap_nil, List.length_nil]
  have f1 : (if a.lang = [] then [] else [a.lang]).length ≤ 1 := by split <;> simp
  have f2 : (if a.append = true then [At.wAppend] else []).length ≤ 1 := by split <;> simp
  have f3 : (if a.noline = true then [At.wNoline] else []).length ≤ 1 := by split <;> simp
  omega
/-- joined by single blanks, from the k-th on -/
theorem At.join_step {L : List (List UInt8)} {V : List UInt8} {k : Nat} (hk : k < L.length) (s : List UInt8) (h : (L.drop k).foldl At.add s = V) : (L.drop (k + 1)).foldl At.add (At.add s L[k]) = V := by
  rw [List.drop_eq_getElem_cons hk, List.foldl_cons] at h; exact h
theorem At.add_first {x : List UInt8} : At.add [] x = x := by unfold At.add; split <;> simp_all
theorem At.add_more {t x : List UInt8} (ht : t ≠ []) (hx : x ≠ []) : At.add t x = t ++ [32] ++ x := by unfold At.add; rw [if_neg hx, if_neg ht]; simp
theorem At.add_ne {t x : List UInt8} (hx : x ≠ []) : At.add t x ≠ [] := by
  unfold At.add; rw [if_neg hx]; split
  · exact hx
  · simp
end Go.Proofs.YtfppfaliepkhgaaDoor
