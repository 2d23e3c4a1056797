/- Plain mathematics of infos: what is read is composed so that it is read again as it was. No program is spoken of here. -/
import Derived.Test.YtfppfaliepkhgaaDoorAtEsc
namespace Go.Proofs.YtfppfaliepkhgaaDoor.At
open Go.Proofs.YtfppfaliepkhgaaDoor.Cl (isGap gaps)

/-- the pairs that say what is said -/
def items (a : Attr) : List Pr :=
  (if a.name = [] then [] else [⟨wName, a.name, false⟩]) ++ ((if a.file = [] then [] else [⟨wFile, a.file, false⟩]) ++ ((if a.style = [] then [] else [⟨wComment, a.style, false⟩]) ++
    ((if a.append = true then [⟨wAppend, [], true⟩] else []) ++ (if a.noline = true then [⟨wNoline, [], true⟩] else []))))
def ptext (p : Pr) : List UInt8 := if p.alone = true then p.key else p.key ++ 61 :: pval p.text
def tail (L : List Pr) : List UInt8 := L.flatMap fun p => 32 :: ptext p

/-- a pair that may stand in a composed info -/
def fine (p : Pr) : Prop := p.key ≠ [] ∧ (∀ b ∈ p.key, letter b = true) ∧ (p.alone = true → (p.key = wAppend ∨ p.key = wNoline) ∧ p.text = [])

theorem tail_stop (L : List Pr) : stop (tail L) = true := by
  rcases L with _ | ⟨p, L⟩
  · rfl
  · exact (by decide : isGap 32 = true)
theorem run_items : ∀ (L : List Pr) (f : Nat) (first : Bool) (lang : List UInt8) (out : List Pr), (∀ p ∈ L, fine p) → (∀ p ∈ L, twice out p.key = false) → L.Pairwise (fun p q => p.key ≠ q.key) →
    run (f + L.length + 1) first lang out (tail L) = (lang, out ++ L, true) := by
  intro L
  induction L with
  | nil => intro f first lang out _ _ _; rw [List.append_nil]; exact run_nil
  | cons p L ih =>
    intro f first lang out hf ht hp
    have h1 := hf p (.head _)
    have h2 := ht p (.head _)
    rw [List.pairwise_cons] at hp
    have hnext : ∀ q ∈ L, twice (out ++ [p]) q.key = false := by
      intro q hq
      have := ht q (.tail _ hq)
      unfold twice at this ⊢
      rw [List.any_append, this]
      simp [hp.1 q hq]
    have hih := fun first lang => ih f first lang (out ++ [p]) (fun q hq => hf q (.tail _ hq)) hnext hp.2
    have e : tail (p :: L) = 32 :: (ptext p ++ tail L) := by unfold tail; rw [List.flatMap_cons]; rfl
    rw [e, run_gap (by decide), show f + (p :: L).length + 1 = (f + L.length + 1) + 1 from by rw [List.length_cons]; omega]
    obtain ⟨key, text, alone⟩ := p
    obtain ⟨hk, hl, hal⟩ := h1
    cases alone with
    | true =>
      obtain ⟨hkey, hte⟩ := hal rfl
      simp only at hte hkey hk hl h2
      subst hte
      rw [show ptext ⟨key, [], true⟩ = key from rfl, run_alone hk hl (by rcases hkey with rfl | rfl <;> simp [isLang]) h2 (tail_stop L), hih, List.append_assoc]
      rfl
    | false =>
      simp only at hk hl h2
      rw [show ptext ⟨key, text, false⟩ = key ++ 61 :: pval text from rfl, show (key ++ 61 :: pval text) ++ tail L = key ++ 61 :: (pval text ++ tail L) from by simp, run_pval hk hl h2 (tail_stop L), hih, List.append_assoc]
      rfl

theorem items_fine (a : Attr) : ∀ p ∈ items a, fine p := by
  intro p hp
  unfold items at hp
  simp only [List.mem_append] at hp
  have pick : ∀ {c : Prop} [Decidable c] {x : Pr}, p ∈ (if c then [x] else []) → p = x := by
    intro c _ x h
    split at h
    · exact List.mem_singleton.1 h
    · cases h
  have pick' : ∀ {c : Prop} [Decidable c] {x : Pr}, p ∈ (if c then [] else [x]) → p = x := by
    intro c _ x h
    split at h
    · cases h
    · exact List.mem_singleton.1 h
  rcases hp with h | h | h | h | h
  · rw [pick' h]; exact ⟨by simp [wName], by simp only; decide, fun h => by cases h⟩
  · rw [pick' h]; exact ⟨by simp [wFile], by simp only; decide, fun h => by cases h⟩
  · rw [pick' h]; exact ⟨by simp [wComment], by simp only; decide, fun h => by cases h⟩
  · rw [pick h]; exact ⟨by simp [wAppend], by simp only; decide, fun _ => ⟨.inl rfl, rfl⟩⟩
  · rw [pick h]; exact ⟨by simp [wNoline], by simp only; decide, fun _ => ⟨.inr rfl, rfl⟩⟩
theorem items_apart (a : Attr) : (items a).Pairwise (fun p q => p.key ≠ q.key) := by
  unfold items
  split <;> split <;> split <;> split <;> split <;> simp [wName, wFile, wComment, wAppend, wNoline]

theorem parts_items (a : Attr) : parts a = (if a.lang = [] then [] else [a.lang]) ++ (items a).map ptext := by
  unfold parts items trio
  simp only [List.flatMap_cons, List.flatMap_nil, List.append_nil, List.append_assoc, List.map_append]
  congr 1
  have e : ∀ k t, po (k, t) = List.map ptext (if t = [] then [] else [⟨k, t, false⟩]) := by
    intro k t
    unfold po
    by_cases h : t = []
    · simp [h]
    · simp [h, ptext, value_eq]
  rw [e, e, e]
  congr 1; congr 1; congr 1
  cases a.append <;> cases a.noline <;> rfl
theorem fold_tail : ∀ (L : List Pr) (t : List UInt8), t ≠ [] → (∀ p ∈ L, ptext p ≠ []) → (L.map ptext).foldl add t = t ++ tail L := by
  intro L
  induction L with
  | nil => intro t _ _; simp [tail]
  | cons p L ih =>
    intro t ht hL
    rw [List.map_cons, List.foldl_cons, add_more ht (hL p (.head _)), ih _ (by simp [ht]) (fun q hq => hL q (.tail _ hq))]
    simp [tail]
theorem ptext_ne {p : Pr} (h : fine p) : ptext p ≠ [] := by
  unfold ptext
  split
  · exact h.1
  · simp
theorem tail_len (L : List Pr) : L.length ≤ (tail L).length := by
  induction L with
  | nil => simp
  | cons p L ih => unfold tail at ih ⊢; simp only [List.flatMap_cons, List.length_append, List.length_cons]; omega

/-- the language that may be composed -/
def tongue (l : List UInt8) : Prop := l = [] ∨ ((∀ b ∈ l, isGap b = false) ∧ isLang true l = true)

theorem pairs_compose {a : Attr} (hl : tongue a.lang) : pairs (compose a) = (a.lang, items a, true) := by
  have hI := items_fine a
  have hA := items_apart a
  rw [compose_parts, parts_items, pairs_run]
  generalize items a = L at hI hA ⊢
  by_cases h0 : a.lang = []
  · rw [if_pos h0, List.nil_append, h0]
    rcases L with _ | ⟨p, L⟩
    · rfl
    · rw [List.map_cons, List.foldl_cons, add_first, fold_tail L _ (ptext_ne (hI p (.head _))) (fun q hq => ptext_ne (hI q (.tail _ hq)))]
      have e : tail (p :: L) = 32 :: (ptext p ++ tail L) := by unfold tail; rw [List.flatMap_cons]; rfl
      have hlen := tail_len L
      have hp := List.length_pos_iff.2 (ptext_ne (hI p (.head _)))
      obtain ⟨f, hf⟩ : ∃ f, (ptext p ++ tail L).length + 1 = f + (p :: L).length + 1 := ⟨(ptext p ++ tail L).length - (p :: L).length, by simp only [List.length_append, List.length_cons]; omega⟩
      have := run_items (p :: L) f true [] [] hI (fun _ _ => twice_nil _) hA
      rw [e, run_gap (by decide)] at this
      rw [hf, this]
      rfl
  · rcases hl with h | ⟨hg, hL⟩
    · exact absurd h h0
    · rw [if_neg h0, List.singleton_append, List.foldl_cons, add_first, fold_tail L _ h0 (fun q hq => ptext_ne (hI q hq))]
      have hlen := tail_len L
      have hp := List.length_pos_iff.2 h0
      obtain ⟨f, hf⟩ : ∃ f, (a.lang ++ tail L).length + 1 = (f + L.length + 1) + 1 := ⟨(a.lang ++ tail L).length - (L.length + 1), by simp only [List.length_append]; omega⟩
      rw [hf, run_lang h0 hg hL (tail_stop L), run_items L f false a.lang [] hI (fun _ _ => twice_nil _) hA]
      rfl

/-- what a text that is read may say -/
def said (a : Attr) : Prop := (a.name = [] ∨ name a.name = true) ∧ (a.file = [] ∨ name a.file = true) ∧ (a.style = [] ∨ style a.style = true)

theorem steps_items {a : Attr} (h : said a) : steps (items a) ⟨a.lang, [], [], [], false, false⟩ = some a := by
  obtain ⟨h1, h2, h3⟩ := h
  obtain ⟨la, na, fi, st, ap, nl⟩ := a
  simp only at h1 h2 h3
  have g1 : ∀ R A, A.name = [] → steps ((if na = [] then [] else [⟨wName, na, false⟩]) ++ R) A = steps R { A with name := na } := by
    intro R A hA
    by_cases h : na = []
    · rw [if_pos h, h]; obtain ⟨_, _, _, _, _, _⟩ := A; simp only at hA; rw [hA]; rfl
    · rw [if_neg h, List.singleton_append, steps, step, if_pos ⟨rfl, rfl, h1.resolve_left h⟩]; rfl
  have g2 : ∀ R A, A.file = [] → steps ((if fi = [] then [] else [⟨wFile, fi, false⟩]) ++ R) A = steps R { A with file := fi } := by
    intro R A hA
    by_cases h : fi = []
    · rw [if_pos h, h]; obtain ⟨_, _, _, _, _, _⟩ := A; simp only at hA; rw [hA]; rfl
    · rw [if_neg h, List.singleton_append, steps, step, if_neg (fun x => absurd x.1 (by simp [wName, wFile])), if_pos ⟨rfl, rfl, h2.resolve_left h⟩]; rfl
  have g3 : ∀ R A, A.style = [] → steps ((if st = [] then [] else [⟨wComment, st, false⟩]) ++ R) A = steps R { A with style := st } := by
    intro R A hA
    by_cases h : st = []
    · rw [if_pos h, h]; obtain ⟨_, _, _, _, _, _⟩ := A; simp only at hA; rw [hA]; rfl
    · rw [if_neg h, List.singleton_append, steps, step, if_neg (fun x => absurd x.1 (by simp [wName, wComment])), if_neg (fun x => absurd x.1 (by simp [wFile, wComment])), if_pos ⟨rfl, rfl, h3.resolve_left h⟩]; rfl
  unfold items
  rw [g1 _ _ rfl, g2 _ _ rfl, g3 _ _ rfl]
  cases ap <;> cases nl <;> simp [steps, step, wName, wFile, wComment, wAppend, wNoline]

theorem steps_said : ∀ (L : List Pr) (a b : Attr), said a → steps L a = some b → said b ∧ b.lang = a.lang := by
  intro L
  induction L with
  | nil => intro a b ha h; cases h; exact ⟨ha, rfl⟩
  | cons p L ih =>
    intro a b ha h
    rw [steps] at h
    obtain ⟨c, hc, h⟩ := Option.bind_eq_some_iff.1 h
    have key : said c ∧ c.lang = a.lang := by
      unfold step at hc
      split at hc
      · rename_i hh; cases hc; exact ⟨⟨.inr hh.2.2, ha.2.1, ha.2.2⟩, rfl⟩
      · split at hc
        · rename_i hh; cases hc; exact ⟨⟨ha.1, .inr hh.2.2, ha.2.2⟩, rfl⟩
        · split at hc
          · rename_i hh; cases hc; exact ⟨⟨ha.1, ha.2.1, .inr hh.2.2⟩, rfl⟩
          · split at hc
            · cases hc; exact ⟨ha, rfl⟩
            · split at hc
              · cases hc; exact ⟨ha, rfl⟩
              · cases hc
    obtain ⟨h1, h2⟩ := ih c b key.1 h
    exact ⟨h1, h2.trans key.2⟩

theorem gaps_first {r : List UInt8} : ∀ b q, r.drop (gaps r) = b :: q → isGap b = false := by
  induction r with
  | nil => intro b q h; simp at h
  | cons c r ih =>
    intro b q h
    cases hc : isGap c with
    | true => rw [Cl.gaps_go _ hc, List.drop_succ_cons] at h; exact ih b q h
    | false => rw [gaps_zero hc] at h; injection h with h1 _; rw [← h1]; exact hc
theorem run_tongue : ∀ (f : Nat) (first : Bool) (lang r : List UInt8) (out : List Pr), tongue lang → tongue (run f first lang out r).1 := by
  intro f
  induction f with
  | zero => intro first lang r out _; exact .inl rfl
  | succ f ih =>
    intro first lang r out hl
    rw [run]
    split
    · exact hl
    · rename_i hne
      split
      · rename_i hL
        refine ih _ _ _ _ (.inr ⟨fun b hb => ?_, ?_⟩)
        · have := tw_all word _ b hb
          unfold word at this
          simpa using this
        · cases first with
          | true => exact hL
          | false => exact absurd hL (by simp [isLang])
      · split
        · exact .inl rfl
        · split
          · exact .inl rfl
          · exact ih _ _ _ _ hl

/-- what is read is composed so that it is read again as it was -/
theorem read_compose {s : List UInt8} {b : Attr} (h : read s = some b) : read (compose b) = some b := by
  unfold read at h
  obtain ⟨a, ha, h⟩ := Option.bind_eq_some_iff.1 h
  split at h
  · cases h
  · rename_i hn
    cases h
    have ht : tongue (pairs s).1 := by rw [pairs_run]; exact run_tongue _ _ _ _ _ (.inl rfl)
    obtain ⟨hs, hlang⟩ := steps_said _ _ _ ⟨.inl rfl, .inl rfl, .inl rfl⟩ ha
    simp only at hlang
    rw [← hlang] at ht
    unfold read
    rw [pairs_compose ht, steps_items hs]
    simp only [Option.bind_some]
    rw [if_neg]
    rintro (hh | hh)
    · cases hh
    · exact hn (.inr hh)
/-- what is written is what says it, if that is read so -/
theorem write_yes {b : Attr} (h : read (compose b) = some b) : write b = compose b := by
  unfold write
  rw [h]
  simp only
  rw [if_pos (same_iff.2 rfl)]
theorem write_read {a : Attr} (h : write a ≠ []) : read (write a) = some a := by
  unfold write at h ⊢
  cases hr : read (compose a) with
  | none => rw [hr] at h; exact absurd rfl h
  | some b =>
    rw [hr] at h
    simp only at h ⊢
    by_cases hs : same b a = true
    · rw [if_pos hs, hr, same_iff.1 hs]
    · rw [if_neg hs] at h; exact absurd rfl h
/-- what is read is no longer than what it is read of -/
theorem run_lang_len (n : Nat) : ∀ (f : Nat) (first : Bool) (lang r : List UInt8) (out : List Pr), lang.length ≤ n → r.length ≤ n → (run f first lang out r).1.length ≤ n := by
  intro f
  induction f with
  | zero => intro first lang r out _ _; exact Nat.zero_le _
  | succ f ih =>
    intro first lang r out hl hr
    have hd : (r.drop (gaps r)).length ≤ n := by rw [List.length_drop]; omega
    have ht := tw_len word (r.drop (gaps r))
    rw [run]
    split
    · exact hl
    · split
      · exact ih _ _ _ _ (by omega) (by rw [List.length_drop]; omega)
      · split
        · exact Nat.zero_le _
        · split
          · exact Nat.zero_le _
          · exact ih _ _ _ _ hl (by rw [List.length_drop]; omega)
theorem name_len {l : List UInt8} (h : name l = true) : l.length ≤ 60 := by
  unfold name at h; simp only [Bool.and_eq_true, decide_eq_true_eq] at h; exact h.1.1.1.1.2
theorem style_len {l : List UInt8} (h : style l = true) : l.length ≤ 4 := by
  unfold style at h; simp only [Bool.and_eq_true, decide_eq_true_eq] at h; exact h.2.2
theorem read_fits {s : List UInt8} {b : Attr} (h : read s = some b) (hl : s.length ≤ 1000000) : fits b := by
  unfold read at h
  obtain ⟨a, ha, h⟩ := Option.bind_eq_some_iff.1 h
  split at h
  · cases h
  · cases h
    obtain ⟨⟨h1, h2, h3⟩, hlang⟩ := steps_said _ _ _ ⟨.inl rfl, .inl rfl, .inl rfl⟩ ha
    have h4 : (pairs s).1.length ≤ s.length := by rw [pairs_run]; exact run_lang_len _ _ _ _ _ _ (Nat.zero_le _) (Nat.le_refl _)
    simp only at hlang
    have k1 : b.name.length ≤ 60 := by
      rcases h1 with h | h
      · rw [h]; simp
      · exact name_len h
    have k2 : b.file.length ≤ 60 := by
      rcases h2 with h | h
      · rw [h]; simp
      · exact name_len h
    have k3 : b.style.length ≤ 4 := by
      rcases h3 with h | h
      · rw [h]; simp
      · exact style_len h
    refine ⟨?_, ?_, ?_, ?_⟩
    · rw [hlang]; omega
    · omega
    · omega
    · omega
theorem write_len {a : Attr} (h : fits a) : (write a).length ≤ 1000000000 := by
  have := compose_len h
  unfold write
  split
  · split
    · exact this
    · simp
  · simp
end Go.Proofs.YtfppfaliepkhgaaDoor.At
