/- Pages, by no program: what inlines and blocks are on a page; whether a page's tags open and close one within the other. Inlines, by no program: how much a text's inlines are, all in all: no more than so many times its bytes. The document's own inlines: two rows of the same trees are alike. Law 12's own help right: its two long tests, as theorems of their own. Law 12's own help right: a row that is as rows are, is told so. Inlines, by no program: words of small letters, stressed, as code, within a link; a text without signs. -/
import Derived.Test.YtkfhkfagmokjpaaDoorMn11
import Derived.Test.YtkfhkfagmokjpaaDoorMn04
import Derived.Test.YtkfhkfagmokjpaaDoorMn12
import Derived.Test.YtkfhkfagmokjpaaDoorMn10
import Derived.Deep.DeepCutAuto
import Derived.Test.YtkfhkfagmokjpaaDoorMn02
namespace Go.Proofs.YtkfhkfagmokjpaaDoor.Hm
open Go.Lib

/-- an inline, a block, of whatever kind -/
inductive Hi where
  | mk (kind : Int) (text dest : List UInt8) (kids : List Hi)
inductive Hb where
  | mk (kind level : Int) (text info : List UInt8) (line : Int) (kids : List Hb)
mutual
def ofIn : Il.In → Hi
  | .mk k t d ks => .mk k t d (ofIns ks)
def ofIns : List Il.In → List Hi
  | [] => []
  | x :: r => ofIn x :: ofIns r
end
mutual
def ofTr : Bk.Tree → Hb
  | .mk k lv t i ln ks => .mk k lv t i ln (ofTrs ks)
def ofTrs : List Bk.Tree → List Hb
  | [] => []
  | x :: r => ofTr x :: ofTrs r
end
theorem ofIns_len : ∀ l, (ofIns l).length = l.length
  | [] => rfl
  | x :: r => by simp only [ofIns, List.length_cons]; rw [ofIns_len r]
theorem ofTrs_len : ∀ l, (ofTrs l).length = l.length
  | [] => rfl
  | x :: r => by simp only [ofTrs, List.length_cons]; rw [ofTrs_len r]

/-- tags -/
def tag (n : List UInt8) : List UInt8 := 60 :: (n ++ [62])
def shut (n : List UInt8) : List UInt8 := 60 :: 47 :: (n ++ [62])
def nCode : List UInt8 := [99, 111, 100, 101]
def nEm : List UInt8 := [101, 109]
def nStrong : List UInt8 := [115, 116, 114, 111, 110, 103]
def nQuote : List UInt8 := [98, 108, 111, 99, 107, 113, 117, 111, 116, 101]
def nUl : List UInt8 := [117, 108]
def nLi : List UInt8 := [108, 105]
def nP : List UInt8 := [112]
def nPre : List UInt8 := [112, 114, 101]
/-- where a link leads on a page -/
def goes (d : List UInt8) : List UInt8 := if Lk.safe d = true then d else [35]
def anchor (d : List UInt8) : List UInt8 := [60, 97, 32, 104, 114, 101, 102, 61, 34] ++ Es.page (goes d) ++ [34, 62]
mutual
def inl : Hi → List UInt8
  | .mk k t d ks =>
    if k = 0 then Es.page t
    else if k = 1 then tag nCode ++ Es.page t ++ shut nCode
    else if k = 2 then tag nEm ++ inls ks ++ shut nEm
    else if k = 3 then tag nStrong ++ inls ks ++ shut nStrong
    else if k = 4 then anchor d ++ inls ks ++ shut [97]
    else if k = 5 then [10]
    else []
def inls : List Hi → List UInt8
  | [] => []
  | x :: r => inl x ++ inls r
end
theorem inls_append : ∀ a b, inls (a ++ b) = inls a ++ inls b
  | [], b => by simp [inls]
  | x :: r, b => by rw [List.cons_append]; simp only [inls]; rw [inls_append r b, List.append_assoc]
theorem inls_snoc (a : List Hi) (x : Hi) : inls (a ++ [x]) = inls a ++ inl x := by rw [inls_append]; simp [inls]
theorem inls_take {l : List Hi} {k : Nat} (h : k < l.length) : inls (l.take (k + 1)) = inls (l.take k) ++ inl l[k] := by rw [List.take_succ_eq_append_getElem h, inls_snoc]
theorem inls_part (l : List Hi) (k : Nat) : (inls (l.take k)).length ≤ (inls l).length := by
  conv => rhs; rw [← List.take_append_drop k l, inls_append, List.length_append]
  omega
theorem inls_kid {l : List Hi} {k : Nat} (h : k < l.length) : (inl l[k]).length + (inls (l.take k)).length ≤ (inls l).length := by
  have := inls_part l (k + 1)
  rw [inls_take h, List.length_append] at this
  omega
/-- a heading's level, as a page has it -/
def level (n : Int) : Nat := (max (min n 6) 1).toNat
def nH (n : Int) : List UInt8 := [104, UInt8.ofNat (48 + level n)]
def para (t : List UInt8) : List UInt8 := inls (ofIns (Il.parse t))
mutual
def blk : Hb → List UInt8
  | .mk k lv t _ _ ks =>
    if k = 0 then blks ks
    else if k = 1 then tag nQuote ++ [10] ++ blks ks ++ shut nQuote ++ [10]
    else if k = 2 then tag nUl ++ [10] ++ blks ks ++ shut nUl ++ [10]
    else if k = 3 then tag nLi ++ [10] ++ blks ks ++ shut nLi ++ [10]
    else if k = 4 then tag nP ++ para t ++ shut nP ++ [10]
    else if k = 5 then tag (nH lv) ++ para t ++ shut (nH lv) ++ [10]
    else if k = 6 then [60, 104, 114, 32, 47, 62, 10]
    else if k = 7 then tag nPre ++ tag nCode ++ Es.page t ++ shut nCode ++ shut nPre ++ [10]
    else []
def blks : List Hb → List UInt8
  | [] => []
  | x :: r => blk x ++ blks r
end
theorem blks_append : ∀ a b, blks (a ++ b) = blks a ++ blks b
  | [], b => by simp [blks]
  | x :: r, b => by rw [List.cons_append]; simp only [blks]; rw [blks_append r b, List.append_assoc]
theorem blks_snoc (a : List Hb) (x : Hb) : blks (a ++ [x]) = blks a ++ blk x := by rw [blks_append]; simp [blks]
theorem blks_take {l : List Hb} {k : Nat} (h : k < l.length) : blks (l.take (k + 1)) = blks (l.take k) ++ blk l[k] := by rw [List.take_succ_eq_append_getElem h, blks_snoc]
theorem blks_part (l : List Hb) (k : Nat) : (blks (l.take k)).length ≤ (blks l).length := by
  conv => rhs; rw [← List.take_append_drop k l, blks_append, List.length_append]
  omega
theorem blks_kid {l : List Hb} {k : Nat} (h : k < l.length) : (blk l[k]).length + (blks (l.take k)).length ≤ (blks l).length := by
  have := blks_part l (k + 1)
  rw [blks_take h, List.length_append] at this
  omega

/-! ### tags, one within the other -/
/-- up to the sign >, what is behind it -/
def upTo : List UInt8 → Option (List UInt8 × List UInt8)
  | [] => none
  | b :: r => if b = 62 then some ([], r) else (upTo r).map fun x => (b :: x.1, x.2)
theorem upTo_len : ∀ {l a r : List UInt8}, upTo l = some (a, r) → l.length = a.length + 1 + r.length
  | [], _, _, h => by simp [upTo] at h
  | b :: l, a, r, h => by
    unfold upTo at h
    split at h
    · injection h with h; injection h with h1 h2; subst h1 h2; simp; omega
    · obtain ⟨x, hx, he⟩ := Option.map_eq_some_iff.1 h
      injection he with h1 h2
      subst h1 h2
      have := upTo_len (l := l) (a := x.1) (r := x.2) (by rw [hx])
      simp only [List.length_cons]; omega
def name (t : List UInt8) : List UInt8 := t.takeWhile (· != 32)
/-- one tag's words, on a row of open ones: what is open then -/
def turn (t : List UInt8) (st : List (List UInt8)) : Option (List (List UInt8)) :=
  if t ≠ [] ∧ t.getLastD 0 = 47 then some st
  else if t.getD 0 0 = 47 ∧ t ≠ [] then (match st with
    | [] => none
    | n :: s => if n = (name t).drop 1 then some s else none)
  else some (name t :: st)
/-- by at most so many steps -/
def balF : Nat → List UInt8 → List (List UInt8) → Bool
  | 0, _, _ => false
  | _ + 1, [], st => st.isEmpty
  | f + 1, b :: r, st =>
    if b = 60 then (match upTo r with
      | none => false
      | some (t, r') => (match turn t st with
        | none => false
        | some st' => balF f r' st'))
    else balF f r st
def bal (l : List UInt8) (st : List (List UInt8)) : Bool := balF (l.length + 1) l st
theorem balF_fuel : ∀ (f g : Nat) (l : List UInt8) (st : List (List UInt8)), l.length < f → l.length < g → balF f l st = balF g l st
  | 0, _, _, _, h, _ => by omega
  | _, 0, _, _, _, h => by omega
  | f + 1, g + 1, [], st, _, _ => rfl
  | f + 1, g + 1, b :: r, st, hf, hg => by
    rw [List.length_cons] at hf hg
    unfold balF
    split
    · cases hu : upTo r with
      | none => rfl
      | some x =>
        obtain ⟨t, r'⟩ := x
        have := upTo_len hu
        simp only
        cases turn t st with
        | none => rfl
        | some st' => exact balF_fuel f g r' st' (by omega) (by omega)
    · exact balF_fuel f g r st (by omega) (by omega)
theorem bal_nil (st : List (List UInt8)) : bal [] st = st.isEmpty := rfl
theorem bal_other {b : UInt8} (h : b ≠ 60) (r : List UInt8) (st : List (List UInt8)) : bal (b :: r) st = bal r st := by
  unfold bal
  rw [List.length_cons]
  conv => lhs; unfold balF
  rw [if_neg h]
theorem bal_tag {t r r' : List UInt8} (h : upTo r = some (t, r')) (st : List (List UInt8)) : bal (60 :: r) st = (match turn t st with | none => false | some st' => bal r' st') := by
  have hl := upTo_len h
  unfold bal
  rw [List.length_cons]
  conv => lhs; unfold balF
  rw [if_pos rfl, h]
  simp only
  cases turn t st with
  | none => rfl
  | some st' => exact balF_fuel _ _ _ _ (by omega) (by omega)
theorem bal_bad {r : List UInt8} (h : upTo r = none) (st : List (List UInt8)) : bal (60 :: r) st = false := by
  unfold bal
  conv => lhs; unfold balF
  rw [if_pos rfl, h]
theorem upTo_app : ∀ (t r : List UInt8), (∀ b ∈ t, b ≠ 62) → upTo (t ++ 62 :: r) = some (t, r)
  | [], r, _ => by simp [upTo]
  | b :: t, r, h => by
    rw [List.cons_append]
    unfold upTo
    rw [if_neg (h b (by simp)), upTo_app t r (fun c hc => h c (by simp [hc]))]; rfl
/-- what has no sign < changes nothing -/
theorem bal_text : ∀ (t r : List UInt8) (st : List (List UInt8)), (∀ b ∈ t, b ≠ 60) → bal (t ++ r) st = bal r st
  | [], _, _, _ => rfl
  | b :: t, r, st, h => by rw [List.cons_append, bal_other (h b (by simp)), bal_text t r st (fun c hc => h c (by simp [hc]))]
/-- a plain name -/
structure Nm (n : List UInt8) : Prop where
  some_ : n ≠ []
  not_ : ∀ b ∈ n, b ≠ 62 ∧ b ≠ 32 ∧ b ≠ 47
theorem name_all {n : List UInt8} (h : ∀ b ∈ n, b ≠ 32) : name n = n := by
  unfold name
  have := List.takeWhile_append_of_pos (p := (· != 32)) (l₁ := n) (l₂ := []) (fun b hb => by simpa using h b hb)
  simpa using this
theorem last_not {n : List UInt8} (h : ∀ b ∈ n, b ≠ 47) : n.getLastD 0 ≠ 47 := by
  rcases List.eq_nil_or_concat n with rfl | ⟨m, x, rfl⟩
  · decide
  · rw [List.concat_eq_append, List.getLastD_concat]; exact h x (by simp)
theorem first_not {n : List UInt8} (h : ∀ b ∈ n, b ≠ 47) : n.getD 0 0 ≠ 47 := by
  cases n with
  | nil => decide
  | cons b r => exact h b (by simp)
theorem turn_open {n : List UInt8} (h : Nm n) (st : List (List UInt8)) : turn n st = some (n :: st) := by
  unfold turn
  rw [if_neg (fun hc => last_not (fun b hb => (h.not_ b hb).2.2) hc.2), if_neg (fun hc => first_not (fun b hb => (h.not_ b hb).2.2) hc.1), name_all (fun b hb => (h.not_ b hb).2.1)]
theorem turn_shut {n : List UInt8} (h : Nm n) (st : List (List UInt8)) : turn (47 :: n) (n :: st) = some st := by
  unfold turn
  have hl : (47 :: n).getLastD 0 ≠ 47 := by
    rcases List.eq_nil_or_concat n with e | ⟨m, x, e⟩
    · exact absurd e h.some_
    · rw [e, List.concat_eq_append, ← List.cons_append, List.getLastD_concat]
      exact (h.not_ x (by rw [e]; simp)).2.2
  rw [if_neg (fun hc => hl hc.2), if_pos ⟨rfl, by simp⟩]
  rw [name_all (n := 47 :: n) (by
    intro b hb
    rcases List.mem_cons.1 hb with rfl | hb
    · decide
    · exact (h.not_ b hb).2.1)]
  simp
theorem bal_open {n : List UInt8} (h : Nm n) (r : List UInt8) (st : List (List UInt8)) : bal (tag n ++ r) st = bal r (n :: st) := by
  unfold tag
  rw [List.cons_append, List.append_assoc, List.singleton_append, bal_tag (upTo_app n r (fun b hb => (h.not_ b hb).1)), turn_open h]
theorem bal_shut {n : List UInt8} (h : Nm n) (r : List UInt8) (st : List (List UInt8)) : bal (shut n ++ r) (n :: st) = bal r st := by
  unfold shut
  rw [List.cons_append, List.cons_append, List.append_assoc, List.singleton_append, bal_tag (t := 47 :: n) (r' := r) (by
    rw [← List.cons_append]
    exact upTo_app (47 :: n) r (by
      intro b hb
      rcases List.mem_cons.1 hb with rfl | hb
      · decide
      · exact (h.not_ b hb).1)), turn_shut h]
theorem bal_anchor (d r : List UInt8) (st : List (List UInt8)) : bal (anchor d ++ r) st = bal r ([97] :: st) := by
  have hp := Es.page_not (goes d)
  obtain ⟨P, hP⟩ : ∃ P, P = Es.page (goes d) := ⟨_, rfl⟩
  unfold anchor
  rw [← hP] at hp ⊢
  have e : [60, 97, 32, 104, 114, 101, 102, 61, 34] ++ P ++ [34, 62] ++ r = 60 :: (([97, 32, 104, 114, 101, 102, 61, 34] ++ (P ++ [34])) ++ 62 :: r) := by simp
  rw [e, bal_tag (upTo_app _ r (by
    intro b hb
    simp only [List.mem_append, List.mem_cons, List.not_mem_nil, or_false] at hb
    rcases hb with hb | hb | rfl
    · rcases hb with rfl | rfl | rfl | rfl | rfl | rfl | rfl | rfl <;> decide
    · exact (hp b hb).2.1
    · decide))]
  have ht : turn ([97, 32, 104, 114, 101, 102, 61, 34] ++ (P ++ [34])) st = some ([97] :: st) := by
    unfold turn
    rw [if_neg (by
      rintro ⟨_, hc⟩
      rw [← List.append_assoc, List.getLastD_concat] at hc
      exact absurd hc (by decide)), if_neg (by
      rintro ⟨hc, _⟩
      exact absurd hc (by simp))]
    rfl
  rw [ht]
theorem nm_of {n : List UInt8} (h : (n ≠ [] ∧ n.all (fun b => b != 62 && b != 32 && b != 47)) = true) : Nm n := by
  have h2 := h
  simp only [ne_eq, eq_iff_iff, iff_true] at h2
  refine ⟨h2.1, fun b hb => ?_⟩
  have := List.all_eq_true.1 h2.2 b hb
  simp only [Bool.and_eq_true, bne_iff_ne, ne_eq] at this
  exact ⟨this.1.1, this.1.2, this.2⟩
theorem nmCode : Nm nCode := ⟨by decide, by decide⟩
theorem nmEm : Nm nEm := ⟨by decide, by decide⟩
theorem nmStrong : Nm nStrong := ⟨by decide, by decide⟩
theorem nmQuote : Nm nQuote := ⟨by decide, by decide⟩
theorem nmUl : Nm nUl := ⟨by decide, by decide⟩
theorem nmLi : Nm nLi := ⟨by decide, by decide⟩
theorem nmP : Nm nP := ⟨by decide, by decide⟩
theorem nmPre : Nm nPre := ⟨by decide, by decide⟩
theorem nmA : Nm [97] := ⟨by decide, by decide⟩
theorem level_in (n : Int) : 1 ≤ level n ∧ level n ≤ 6 := by unfold level; omega
theorem nmH (n : Int) : Nm (nH n) := by
  have h := level_in n
  unfold nH
  rcases (show level n = 1 ∨ level n = 2 ∨ level n = 3 ∨ level n = 4 ∨ level n = 5 ∨ level n = 6 by omega) with e | e | e | e | e | e <;> rw [e] <;> exact ⟨by decide, by decide⟩
mutual
/-- inlines, blocks change nothing -/
theorem bal_inl : ∀ (x : Hi) (r : List UInt8) (st : List (List UInt8)), bal (inl x ++ r) st = bal r st
  | .mk k t d ks, r, st => by
    have hp : ∀ b ∈ Es.page t, b ≠ 60 := fun b hb => (Es.page_not t b hb).1
    unfold inl
    by_cases h0 : k = 0
    · rw [if_pos h0, bal_text _ _ _ hp]
    rw [if_neg h0]
    by_cases h1 : k = 1
    · rw [if_pos h1, List.append_assoc, List.append_assoc, bal_open nmCode, bal_text _ _ _ hp, bal_shut nmCode]
    rw [if_neg h1]
    by_cases h2 : k = 2
    · rw [if_pos h2, List.append_assoc, List.append_assoc, bal_open nmEm, bal_inls ks, bal_shut nmEm]
    rw [if_neg h2]
    by_cases h3 : k = 3
    · rw [if_pos h3, List.append_assoc, List.append_assoc, bal_open nmStrong, bal_inls ks, bal_shut nmStrong]
    rw [if_neg h3]
    by_cases h4 : k = 4
    · rw [if_pos h4, List.append_assoc, List.append_assoc, bal_anchor, bal_inls ks, bal_shut nmA]
    rw [if_neg h4]
    by_cases h5 : k = 5
    · rw [if_pos h5, bal_text _ _ _ (by decide)]
    rw [if_neg h5]; rfl
theorem bal_inls : ∀ (l : List Hi) (r : List UInt8) (st : List (List UInt8)), bal (inls l ++ r) st = bal r st
  | [], _, _ => by simp [inls]
  | x :: l, r, st => by
    simp only [inls]
    rw [List.append_assoc, bal_inl x, bal_inls l]
end
mutual
theorem bal_blk : ∀ (x : Hb) (r : List UInt8) (st : List (List UInt8)), bal (blk x ++ r) st = bal r st
  | .mk k lv t inf ln ks, r, st => by
    have hp : ∀ b ∈ Es.page t, b ≠ 60 := fun b hb => (Es.page_not t b hb).1
    have hn : ∀ b ∈ ([10] : List UInt8), b ≠ 60 := by decide
    unfold blk
    by_cases h0 : k = 0
    · rw [if_pos h0, bal_blks ks]
    rw [if_neg h0]
    by_cases h1 : k = 1
    · rw [if_pos h1]; simp only [List.append_assoc]; rw [bal_open nmQuote, bal_text _ _ _ hn, bal_blks ks, bal_shut nmQuote, bal_text _ _ _ hn]
    rw [if_neg h1]
    by_cases h2 : k = 2
    · rw [if_pos h2]; simp only [List.append_assoc]; rw [bal_open nmUl, bal_text _ _ _ hn, bal_blks ks, bal_shut nmUl, bal_text _ _ _ hn]
    rw [if_neg h2]
    by_cases h3 : k = 3
    · rw [if_pos h3]; simp only [List.append_assoc]; rw [bal_open nmLi, bal_text _ _ _ hn, bal_blks ks, bal_shut nmLi, bal_text _ _ _ hn]
    rw [if_neg h3]
    by_cases h4 : k = 4
    · rw [if_pos h4]; simp only [List.append_assoc]; rw [bal_open nmP]; unfold para; rw [bal_inls, bal_shut nmP, bal_text _ _ _ hn]
    rw [if_neg h4]
    by_cases h5 : k = 5
    · rw [if_pos h5]; simp only [List.append_assoc]; rw [bal_open (nmH lv)]; unfold para; rw [bal_inls, bal_shut (nmH lv), bal_text _ _ _ hn]
    rw [if_neg h5]
    by_cases h6 : k = 6
    · rw [if_pos h6]
      show bal (60 :: ([104, 114, 32, 47] ++ 62 :: (10 :: r))) st = _
      rw [bal_tag (upTo_app [104, 114, 32, 47] (10 :: r) (by decide))]
      show bal (10 :: r) st = _
      exact bal_other (by decide) r st
    rw [if_neg h6]
    by_cases h7 : k = 7
    · rw [if_pos h7]; simp only [List.append_assoc]; rw [bal_open nmPre, bal_open nmCode, bal_text _ _ _ hp, bal_shut nmCode, bal_shut nmPre, bal_text _ _ _ hn]
    rw [if_neg h7]; rfl
theorem bal_blks : ∀ (l : List Hb) (r : List UInt8) (st : List (List UInt8)), bal (blks l ++ r) st = bal r st
  | [], _, _ => by simp [blks]
  | x :: l, r, st => by
    simp only [blks]
    rw [List.append_assoc, bal_blk x, bal_blks l]
end
theorem bal_page (x : Hb) : bal (blk x) [] = true := by
  have := bal_blk x [] []
  rw [List.append_nil] at this
  rw [this]; rfl
theorem bal_row (l : List Hi) : bal (inls l) [] = true := by
  have := bal_inls l [] []
  rw [List.append_nil] at this
  rw [this]; rfl
end Go.Proofs.YtkfhkfagmokjpaaDoor.Hm

namespace Go.Proofs.YtkfhkfagmokjpaaDoor.Il
open Go.Lib

mutual
def mass : In → Nat
  | .mk _ t d ks => t.length + d.length + 1 + masses ks
def masses : List In → Nat
  | [] => 0
  | x :: r => mass x + masses r
end
theorem masses_append : ∀ a b, masses (a ++ b) = masses a + masses b
  | [], b => by simp [masses]
  | x :: r, b => by rw [List.cons_append]; simp only [masses]; rw [masses_append r b]; omega
theorem masses_snoc (a : List In) (x : In) : masses (a ++ [x]) = masses a + mass x := by rw [masses_append]; simp [masses]
def pm (l : List Pt) : Nat := (l.map fun p => mass (eff p)).sum
theorem pm_append (a b : List Pt) : pm (a ++ b) = pm a + pm b := by simp [pm]
theorem pm_cons (p : Pt) (b : List Pt) : pm (p :: b) = mass (eff p) + pm b := by simp [pm]
theorem pm_nil : pm [] = 0 := rfl
theorem iput_mass (out : List In) (x : In) : masses (iput out x) ≤ masses out + mass x := by
  rcases iput_cases out x with e | ⟨o, t', d', ks', t, d, ks, rfl, rfl, e⟩ | e
  · rw [e]; omega
  · rw [e, masses_snoc, masses_snoc]
    simp only [mass, List.length_append]
    omega
  · rw [e, masses_snoc]; omega
theorem fold_mass : ∀ (l : List Pt) (out : List In), masses (l.foldl (fun out p => iput out (eff p)) out) ≤ masses out + pm l
  | [], out => by simp [pm]
  | p :: l, out => by
    rw [List.foldl_cons, pm_cons]
    have h1 := fold_mass l (iput out (eff p))
    have h2 := iput_mass out (eff p)
    omega
theorem settle_mass (l : List Pt) : masses (settle l) ≤ pm l := by
  have := fold_mass l []
  simpa [settle, masses] using this
theorem mass_less {p : Pt} {r : Nat} (h : p.run = some r) (s : Nat) : mass (eff { p with left := p.left - s }) ≤ mass (eff p) := by
  obtain ⟨⟨kd, t, d, ks⟩, rn, n, c⟩ := p
  simp only at h
  subst h
  simp only [eff_some, mass, List.length_replicate]
  omega
theorem join_mass {l : List Pt} {a b s : Nat} (hs : (rns l).Pairwise (· < ·)) (ha : a ∈ rns l) (hb : b ∈ rns l) (hab : a < b) : pm (joinPair l (a, b, s)) ≤ pm l + 1 := by
  obtain ⟨A, p, B, q, C, rfl, hp, hq, h1, h2, _, _, _⟩ := place_two hs ha hb hab
  rw [joinPair_eq h1 h2]
  have k := settle_mass B
  have e1 := mass_less hp s
  have e2 := mass_less hq s
  have e3 : mass (eff ⟨.mk (if s = 2 then 3 else 2) [] [] (settle B), none, 0, 0⟩) = 1 + masses (settle B) := by
    rw [eff_none]; simp [mass]
  rw [pm_append, pm_append, pm_cons, pm_cons, pm_cons, pm_cons, pm_append, pm_cons, e3]
  omega
theorem stress_mass {l : List Pt} {runs : List Em.R} (h : Ready l runs) : masses (stress l runs) ≤ pm l + 100 * runs.length := by
  have hbd := Em.bd_pairs runs
  have key : ∀ k, k ≤ (Em.pairs runs).length → pm (behindP l (Em.pairs runs) k) ≤ pm l + k := by
    intro k
    induction k with
    | zero => intro _; simp [behindP]
    | succ k ih =>
      intro hk
      have hk' : k < (Em.pairs runs).length := by omega
      have i := ih (by omega)
      have hh := holds_all h k (by omega)
      have ht := hh.there k hk' (Nat.le_refl _)
      have hg := good_pairs runs _ (List.getElem_mem hk')
      have := join_mass (s := (Em.pairs runs)[k].2.2) hh.sorted ht.1 ht.2 hg.1
      rw [behind_next hk']
      exact Nat.le_trans this (by omega)
  have e : stress l runs = settle (behindP l (Em.pairs runs) (Em.pairs runs).length) := by unfold stress behindP; rw [List.take_of_length_le (Nat.le_refl _)]
  have h1 := key _ (Nat.le_refl _)
  have h2 := settle_mass (behindP l (Em.pairs runs) (Em.pairs runs).length)
  rw [e]
  omega
theorem pput_mass (l : List Pt) (s : List UInt8) : pm (pput l s) ≤ pm l + s.length + 1 := by
  rcases pput_cases l s with ⟨l', t, d, k, n, c, rfl, h⟩ | h
  · rw [h, pm_append, pm_append, pm_cons, pm_cons, pm_nil]
    simp only [eff_none, mass, List.length_append]
    omega
  · rw [h, pm_append, pm_cons, pm_nil]
    simp only [word, eff_none, mass, masses, List.length_nil]
    omega
theorem dest_len {s : List UInt8} {k : Nat} {d : List UInt8} {e : Nat} (h : Lk.dest s (k : Int) = some (d, e)) : d.length + 4 * k ≤ 4 * e := by
  have hsp := dest_spec h
  unfold Lk.dest at h
  split at h
  · obtain ⟨j, hj, he⟩ := Option.map_eq_some_iff.1 h
    have hd := Lk.dends_spec _ _ _ hj
    rw [Int.toNat_natCast] at hd he
    injection he with h1 h2
    have e1 := enc_few (Es.plain (Go.Proofs.YtkfhkfagmokjpaaDoor.mid s (k + 1) j))
    have e2 := Es.plain_len (Go.Proofs.YtkfhkfagmokjpaaDoor.mid s (k + 1) j)
    rw [Go.Proofs.YtkfhkfagmokjpaaDoor.mid_len (by omega)] at e2
    rw [← h1]
    omega
  · cases h
/-- how much an inner text's are -/
def InnerM (inner : List UInt8 → List In) (C : Nat) : Prop := ∀ t, t.length ≤ 4000000 → masses (inner t) ≤ C * t.length
theorem piece_mass (link : Bool) (inner : List UInt8 → List In) {C : Nat} (hC : 7 ≤ C) (hin : link = false → InnerM inner C) {s : List UInt8} (hs : s.length ≤ 4000000) {i : Nat} (h : i < s.length) {st : Sc} (hf : pm st.l ≤ C * i) :
    pm (piece link inner s i st).2.l ≤ C * (piece link inner s i st).1 := by
  have hm := piece_more link inner h st
  have lin : ∀ {e x : Nat}, i < e → x ≤ 7 * (e - i) → pm st.l + x ≤ C * e := by
    intro e x he hx
    have h1 : C * e = C * i + C * (e - i) := by rw [← Nat.mul_add]; congr 1; omega
    have h2 : 7 * (e - i) ≤ C * (e - i) := Nat.mul_le_mul_right _ hC
    omega
  unfold piece at hm ⊢
  by_cases h96 : s.getD i 0 = 96
  · rw [if_pos h96] at hm ⊢
    cases hsp : Cd.span s (i : Int) with
    | some x =>
      obtain ⟨t, e⟩ := x
      rw [hsp] at hm
      simp only at hm ⊢
      have hl := span_len hsp
      rw [pm_append, pm_cons, pm_nil]
      exact lin hm.1 (by simp only [eff_none, mass, masses, List.length_nil]; omega)
    | none =>
      rw [hsp] at hm
      simp only at hm ⊢
      have hml := Go.Proofs.YtkfhkfagmokjpaaDoor.mid_len (l := s) (lo := i) (hi := i + Fn.run 96 (s.drop i)) hm.2
      have := pput_mass st.l (Go.Proofs.YtkfhkfagmokjpaaDoor.mid s i (i + Fn.run 96 (s.drop i)))
      exact Nat.le_trans (by rw [Nat.add_assoc] at this; exact this) (lin hm.1 (by omega))
  · rw [if_neg h96] at hm ⊢
    cases ha : (if link = true then none else Lk.auto s (i : Int)) with
    | some x =>
      obtain ⟨t, e⟩ := x
      rw [ha] at hm
      simp only at hm ⊢
      split at ha
      · cases ha
      · have hl := auto_in ha
        have h1 := enc_few (Ru.runes t)
        have h2 := runes_few t.length t (Nat.le_refl _)
        rw [pm_append, pm_cons, pm_nil]
        exact lin hm.1 (by simp only [eff_none, mass, masses, word, List.length_nil]; omega)
    | none =>
      rw [ha] at hm
      simp only at hm ⊢
      cases hl : (if link = true then none else linkAt s i) with
      | some x =>
        obtain ⟨d, j, e⟩ := x
        rw [hl] at hm
        simp only at hm ⊢
        split at hl
        · cases hl
        · rename_i hlf
          have h3 := link_spec hl
          have hml := Go.Proofs.YtkfhkfagmokjpaaDoor.mid_len (l := s) (lo := i + 1) (hi := j) (by omega)
          have hI := hin (by simpa using hlf) (Go.Proofs.YtkfhkfagmokjpaaDoor.mid s (i + 1) j) (by omega)
          have hd : d.length + 4 * (j + 1) ≤ 4 * e := by
            unfold linkAt at hl
            split at hl
            · cases hl
            · split at hl
              · cases hl
              · rename_i hde
                simp only [Option.some.injEq, Prod.mk.injEq] at hl
                obtain ⟨rfl, rfl, rfl⟩ := hl
                exact dest_len (by rw [Int.natCast_add]; exact hde)
          rw [hml] at hI
          rw [pm_append, pm_cons, pm_nil]
          simp only [eff_none, mass, List.length_nil]
          have c1 : C * e = C * i + C * (j - (i + 1)) + C * (e - (j - 1)) := by
            rw [← Nat.mul_add, ← Nat.mul_add]; congr 1; omega
          have c2 : 7 * (e - (j - 1)) ≤ C * (e - (j - 1)) := Nat.mul_le_mul_right _ hC
          omega
      | none =>
        rw [hl] at hm
        simp only at hm ⊢
        cases hk : Em.kind s (i : Int) with
        | some x =>
          obtain ⟨r, e⟩ := x
          rw [hk] at hm
          simp only at hm ⊢
          have hn := kind_n hk
          rw [pm_append, pm_cons, pm_nil]
          exact lin hm.1 (by simp only [none_, eff_some, mass, masses, List.length_nil, List.length_replicate]; omega)
        | none =>
          rw [hk] at hm
          simp only at hm ⊢
          by_cases h10 : s.getD i 0 = 10
          · rw [if_pos h10] at hm ⊢
            rw [pm_append, pm_cons, pm_nil]
            exact lin hm.1 (by simp only [eff_none, mass, masses, List.length_nil]; omega)
          · rw [if_neg h10] at hm ⊢
            have he := Ru.encodeRune_len ((Es.next s i).1 : Int)
            simp only at hm ⊢
            have := pput_mass st.l (encodeRune ((Es.next s i).1 : Int))
            exact Nat.le_trans (by rw [Nat.add_assoc] at this; exact this) (lin hm.1 (by omega))
theorem scanF_mass (link : Bool) (inner : List UInt8 → List In) {C : Nat} (hC : 7 ≤ C) (hin : link = false → InnerM inner C) (hok : link = false → InnerOK inner) {s : List UInt8} (hs : s.length ≤ 4000000) : ∀ (f i : Nat) (st : Sc), i ≤ s.length → ScOK st i → FewS st i → pm st.l ≤ C * i →
    ∃ j, j ≤ s.length ∧ ScOK (scanF link inner f s i st) j ∧ pm (scanF link inner f s i st).l ≤ C * j
  | 0, i, st, hi, h1, _, h3 => ⟨i, hi, h1, h3⟩
  | f + 1, i, st, hi, h1, h2, h3 => by
    unfold scanF
    by_cases h : i < s.length
    · rw [if_pos h]
      have hm := piece_more link inner h st
      obtain ⟨k1, k2⟩ := piece_ok link inner hok hs h h1 h2
      exact scanF_mass link inner hC hin hok hs f _ _ hm.2 k1 k2 (piece_mass link inner hC hin hs h h3)
    · rw [if_neg h]; exact ⟨i, hi, h1, h3⟩
theorem within_mass (link : Bool) (inner : List UInt8 → List In) {C : Nat} (hC : 7 ≤ C) (hin : link = false → InnerM inner C) (hok : link = false → InnerOK inner) : InnerM (within link inner) (C + 100) := by
  intro s hs
  obtain ⟨j, hj, h1, h2⟩ := scanF_mass link inner hC hin hok hs (s.length + 1 - 0) 0 ⟨[], []⟩ (Nat.zero_le _) scok_start ⟨by simp, by simp [weight]⟩ (by simp [pm])
  have hr := h1.rlen
  have h3 := stress_mass (scok_ready h1)
  have h4 : C * j ≤ C * s.length := Nat.mul_le_mul_left _ hj
  have h5 : (C + 100) * s.length = C * s.length + 100 * s.length := Nat.add_mul _ _ _
  unfold within
  show masses (stress (scanF link inner (s.length + 1 - 0) s 0 ⟨[], []⟩).l _) ≤ _
  exact Nat.le_trans h3 (by omega)
/-- all that a text's inlines are -/
theorem parse_mass {s : List UInt8} (hs : s.length ≤ 4000000) : masses (parse s) ≤ 207 * s.length :=
  within_mass false inLink (C := 107) (by omega) (fun _ => within_mass true (fun _ => []) (C := 7) (by omega) (fun h => absurd h (by decide)) (fun h => absurd h (by decide))) (fun _ => within_ok true (fun _ => []) (fun h => absurd h (by decide))) s hs
end Go.Proofs.YtkfhkfagmokjpaaDoor.Il
namespace Go.Proofs.YtkfhkfagmokjpaaDoor.Hm
mutual
/-- how long they are on a page -/
theorem inl_len : ∀ x : Il.In, (inl (ofIn x)).length ≤ 30 * Il.mass x
  | .mk k t d ks => by
    have hp := (Es.page_len t).2
    have hg : (goes d).length ≤ d.length + 1 := by unfold goes; split <;> simp
    have ha := (Es.page_len (goes d)).2
    have ih := inls_len ks
    simp only [ofIn, inl, Il.mass]
    repeat' split
    all_goals (try simp only [tag, shut, anchor, nCode, nEm, nStrong, List.length_append, List.length_cons, List.length_nil])
    all_goals omega
theorem inls_len : ∀ l : List Il.In, (inls (ofIns l)).length ≤ 30 * Il.masses l
  | [] => by simp [ofIns, inls]
  | x :: r => by
    have h1 := inl_len x
    have h2 := inls_len r
    simp only [ofIns, inls, Il.masses, List.length_append]
    omega
end
theorem para_len {t : List UInt8} (h : t.length ≤ 4000000) : (para t).length ≤ 6210 * t.length := by
  have h1 := inls_len (Il.parse t)
  have h2 := Il.parse_mass h
  unfold para
  omega
end Go.Proofs.YtkfhkfagmokjpaaDoor.Hm

namespace Go.Proofs.YtkfhkfagmokjpaaDoor
open Go.RowKit
attribute [local go_sem] canOp readsAs readUpon

set_option maxHeartbeats 8000000 in
set_option maxRecDepth 100000 in
theorem risame_any : ∀ (N : Nat) (ts : List Il.In) (_ : SizeOf.sizeOf ts ≤ N) (_ : ∀ t ∈ ts, Il.Few t) (_ : ts.length ≤ 1000000000) (A B : Option Addr) (c d : Nat) (css dss : List (List Value)) (w : World) (Q : Nat → Prop) (_ : ∀ b, Q b → b < w.heap.size)
    (_ : RowI w Q 4 A ts.length css.flatten) (_ : ICs w Q ts css) (_ : RowI w Q 4 B ts.length dss.flatten) (_ : ICs w Q ts dss),
    Calls Tryd.prog 10 #[.slice A ts.length c, .slice B ts.length d] w fun e w' => e = .returned (.bool true) ∧ Below w.heap.size w w'
  | 0, ts, hN, _, _, _, _, _, _, _, _, _, _, _, _, _, _, _ => by cases ts <;> simp at hN
  | N + 1, ts, hN, hF, hl, A, B, c, d, css, dss, w, Q, hQ, hR, hI, hR2, hI2 => by
    have ih := risame_any N
    replace hR := Lib.hid hR
    replace hI := Lib.hid hI
    replace hR2 := Lib.hid hR2
    replace hI2 := Lib.hid hI2
    have hne : ((ts.length : Int) != (ts.length : Int)) = false := by simp
    go_enter Tryd.func10, Tryd.ntmps10
    go_wp2_with fail
    go_loopw [13] (fun u wr => ∃ k : Nat, k ≤ ts.length ∧ u = .int .i64 (k : Int) ∧ Hid (Below w.heap.size w wr)) (fun u _ => ts.length - (intOf u).toNat)
    case atStart => exact ⟨0, by omega, rfl, Lib.hid (Below.refl _ _)⟩
    case round =>
      obtain ⟨k, hk, rfl, hb⟩ := hrel
      rcases Nat.lt_or_eq_of_le hk with hlt | hke
      · obtain ⟨cs, i1, i2⟩ := ICs_at hI.out hlt
        obtain ⟨ds, j1, j2⟩ := ICs_at hI2.out hlt
        obtain ⟨b1, o1, rfl, hq1, hc1⟩ := hR.out.2 (by omega)
        obtain ⟨b2, o2, rfl, hq2, hc2⟩ := hR2.out.2 (by omega)
        have hFk := hF ts[k] (List.getElem_mem hlt)
        have hNk : SizeOf.sizeOf ts[k] < N + 1 := by have := List.sizeOf_lt_of_mem (List.getElem_mem hlt); omega
        obtain ⟨n, hn⟩ : ∃ n, n = ts.length := ⟨_, rfl⟩
        generalize ts[k] = t at i1 j1 hFk hNk
        rw [← hn] at hne hlt hl ⊢
        clear hn
        obtain ⟨kd, tx, de, ks⟩ := t
        obtain ⟨A1, k1, cs2, rfl, hk1, r1, s1⟩ := IC_form i1
        obtain ⟨A2, k2, ds2, rfl, hk2, r2, s2⟩ := IC_form j1
        have hl1 := hQ _ hq1
        have hl2 := hQ _ hq2
        have hbw := hb.out
        have x0 := (hbw.cell (p := ⟨b1, o1 + (k * 4 + 0), none⟩) hl1).trans (hc1 _ _ (i2 0 (by omega)))
        have x1 := (hbw.cell (p := ⟨b1, o1 + (k * 4 + 1), none⟩) hl1).trans (hc1 _ _ (i2 1 (by omega)))
        have x2 := (hbw.cell (p := ⟨b1, o1 + (k * 4 + 2), none⟩) hl1).trans (hc1 _ _ (i2 2 (by omega)))
        have x3 := (hbw.cell (p := ⟨b1, o1 + (k * 4 + 3), none⟩) hl1).trans (hc1 _ _ (i2 3 (by omega)))
        have y0 := (hbw.cell (p := ⟨b2, o2 + (k * 4 + 0), none⟩) hl2).trans (hc2 _ _ (j2 0 (by omega)))
        have y1 := (hbw.cell (p := ⟨b2, o2 + (k * 4 + 1), none⟩) hl2).trans (hc2 _ _ (j2 1 (by omega)))
        have y2 := (hbw.cell (p := ⟨b2, o2 + (k * 4 + 2), none⟩) hl2).trans (hc2 _ _ (j2 2 (by omega)))
        have y3 := (hbw.cell (p := ⟨b2, o2 + (k * 4 + 3), none⟩) hl2).trans (hc2 _ _ (j2 3 (by omega)))
        simp only [← Nat.add_assoc, Nat.add_zero] at x0 x1 x2 x3 y0 y1 y2 y3
        obtain ⟨_, hF2, hF3⟩ : kd ≤ 1000 ∧ ks.length ≤ 1000000000 ∧ ∀ x ∈ ks, Il.Few x := by cases hFk with | mk a b c => exact ⟨a, b, c⟩
        simp only [Il.In.mk.sizeOf_spec] at hNk
        have hcall := fun w' (hb' : Below w.heap.size w w') => ih ks (by omega) hF3 hF2 A1 A2 k1 k2 cs2 ds2 w' Q (fun b h => Nat.lt_of_lt_of_le (hQ b h) hb'.size) (r1.frame (fun b h => hb'.block b (hQ b h)) (fun _ h => h)) (ICs_frame (fun b h => hb'.block b (hQ b h)) (fun _ h => h) s1)
          (r2.frame (fun b h => hb'.block b (hQ b h)) (fun _ h => h)) (ICs_frame (fun b h => hb'.block b (hQ b h)) (fun _ h => h) s2)
        replace hcall := Lib.hid hcall
        have hl1' : b1 < wr.drew.heap.size := Nat.lt_of_lt_of_le hl1 hbw.size
        have hl2' : b2 < wr.drew.heap.size := Nat.lt_of_lt_of_le hl2 hbw.size
        have hSu : ∀ u, Ext wr.drew u → (u.cell? ⟨b1, o1 + k * 4, none⟩ = some (.int .i64 (kd : Int)) ∧ u.cell? ⟨b1, o1 + k * 4 + 1, none⟩ = some (.string (bs tx)) ∧ u.cell? ⟨b1, o1 + k * 4 + 2, none⟩ = some (.string (bs de)) ∧ u.cell? ⟨b1, o1 + k * 4 + 3, none⟩ = some (.slice A1 ks.length k1)) ∧
            (u.cell? ⟨b2, o2 + k * 4, none⟩ = some (.int .i64 (kd : Int)) ∧ u.cell? ⟨b2, o2 + k * 4 + 1, none⟩ = some (.string (bs tx)) ∧ u.cell? ⟨b2, o2 + k * 4 + 2, none⟩ = some (.string (bs de)) ∧ u.cell? ⟨b2, o2 + k * 4 + 3, none⟩ = some (.slice A2 ks.length k2)) := fun u (hu : Below wr.drew.heap.size wr.drew u) =>
          ⟨⟨(hu.cell (p := ⟨b1, _, none⟩) hl1').trans x0, (hu.cell (p := ⟨b1, _, none⟩) hl1').trans x1, (hu.cell (p := ⟨b1, _, none⟩) hl1').trans x2, (hu.cell (p := ⟨b1, _, none⟩) hl1').trans x3⟩,
           (hu.cell (p := ⟨b2, _, none⟩) hl2').trans y0, (hu.cell (p := ⟨b2, _, none⟩) hl2').trans y1, (hu.cell (p := ⟨b2, _, none⟩) hl2').trans y2, (hu.cell (p := ⟨b2, _, none⟩) hl2').trans y3⟩
        replace hSu := Lib.hid hSu
        have hbd := Lib.hid (ext_trans hbw (ext_drew wr))
        have t0 : ((kd : Int) != (kd : Int)) = false := by simp
        have e1 := bs_eq (a := tx) (b := tx) rfl
        have e2 := bs_eq (a := de) (b := de) rfl
        have hk0 : (0 : Int) ≤ (k : Int) := by omega
        have hk1' : (k : Int) < (n : Int) := by omega
        clear ih hc1 hc2 i1 i2 j1 j2 r1 r2 s1 s2 x0 x1 x2 x3 y0 y1 y2 y3 hFk hF3
        go_upto_region 6 with fail
        refine wp_region_can [(true, 0), (true, 1), (true, 2), (true, 3), (true, 4), (true, 5), (true, 6), (true, 7), (true, 8), (true, 9), (true, 10), (true, 11), (true, 12), (true, 13), (true, 14), (true, 15), (true, 16), (true, 17), (true, 18), (true, 19), (true, 20), (true, 21), (true, 22), (true, 23), (true, 24), (true, 25), (true, 26), (true, 27), (true, 28), (true, 29), (true, 30), (true, 31), (true, 32), (true, 33), (true, 34), (true, 35), (true, 36), (true, 37), (true, 38), (true, 39), (true, 40), (true, 41), (true, 42), (true, 43), (true, 44), (true, 45), (true, 46), (true, 47), (false, 48), (true, 49), (true, 50)] (Ext wr.drew) (Below.refl _ _) (by kernel_rfl) (by kernel_rfl) (by kernel_rfl) (fun _ _ d _ _ h => by cases d <;> exact h) ?_
        repeat (first | refine wpCan_move rfl ?_ | (refine wpCan_cons rfl ?_; intro K hK; go_simp; refine hK _ _ _ ?_; clear hK K))
        refine wpCan_read (.int .i64 (kd : Int)) rfl rfl (Below.refl _ _) (fun u hu => by obtain ⟨⟨u1, u2, u3, u4⟩, v1, v2, v3, v4⟩ := hSu.out u hu; go_simp) ?_
        repeat (first | refine wpCan_move rfl ?_ | (refine wpCan_cons rfl ?_; intro K hK; go_simp; refine hK _ _ _ ?_; clear hK K))
        refine wpCan_read (.int .i64 (kd : Int)) rfl rfl (Below.refl _ _) (fun u hu => by obtain ⟨⟨u1, u2, u3, u4⟩, v1, v2, v3, v4⟩ := hSu.out u hu; go_simp) ?_
        repeat (first | refine wpCan_move rfl ?_ | (refine wpCan_cons rfl ?_; intro K hK; go_simp; refine hK _ _ _ ?_; clear hK K))
        refine wpCan_read (.string (bs tx)) rfl rfl (Below.refl _ _) (fun u hu => by obtain ⟨⟨u1, u2, u3, u4⟩, v1, v2, v3, v4⟩ := hSu.out u hu; go_simp) ?_
        repeat (first | refine wpCan_move rfl ?_ | (refine wpCan_cons rfl ?_; intro K hK; go_simp; refine hK _ _ _ ?_; clear hK K))
        refine wpCan_read (.string (bs tx)) rfl rfl (Below.refl _ _) (fun u hu => by obtain ⟨⟨u1, u2, u3, u4⟩, v1, v2, v3, v4⟩ := hSu.out u hu; go_simp) ?_
        repeat (first | refine wpCan_move rfl ?_ | (refine wpCan_cons rfl ?_; intro K hK; go_simp; refine hK _ _ _ ?_; clear hK K))
        refine wpCan_read (.string (bs de)) rfl rfl (Below.refl _ _) (fun u hu => by obtain ⟨⟨u1, u2, u3, u4⟩, v1, v2, v3, v4⟩ := hSu.out u hu; go_simp) ?_
        repeat (first | refine wpCan_move rfl ?_ | (refine wpCan_cons rfl ?_; intro K hK; go_simp; refine hK _ _ _ ?_; clear hK K))
        refine wpCan_read (.string (bs de)) rfl rfl (Below.refl _ _) (fun u hu => by obtain ⟨⟨u1, u2, u3, u4⟩, v1, v2, v3, v4⟩ := hSu.out u hu; go_simp) ?_
        repeat (first | refine wpCan_move rfl ?_ | (refine wpCan_cons rfl ?_; intro K hK; go_simp; refine hK _ _ _ ?_; clear hK K))
        refine wpCan_read (.slice A1 ks.length k1) rfl rfl (Below.refl _ _) (fun u hu => by obtain ⟨⟨u1, u2, u3, u4⟩, v1, v2, v3, v4⟩ := hSu.out u hu; go_simp) ?_
        repeat (first | refine wpCan_move rfl ?_ | (refine wpCan_cons rfl ?_; intro K hK; go_simp; refine hK _ _ _ ?_; clear hK K))
        refine wpCan_read (.slice A2 ks.length k2) rfl rfl (Below.refl _ _) (fun u hu => by obtain ⟨⟨u1, u2, u3, u4⟩, v1, v2, v3, v4⟩ := hSu.out u hu; go_simp) ?_
        refine wpCan_cons rfl ?_
        intro KK hKK
        go_simp
        refine (hcall.out wr.drew hbd.out).mono ?_
        rintro e w8 ⟨rfl, hb8⟩
        have hb9 := Lib.hid (ext_trans hbd.out hb8)
        refine can_ext hb8 (hKK _ _ _ ?_)
        clear hKK KK
        repeat (first | refine wpCan_move rfl ?_ | (refine wpCan_cons rfl ?_; intro K hK; go_simp; refine hK _ _ _ ?_; clear hK K))
        refine wpCan_nil ?_
        go_wp2_with fail
        go_roundw
        case rel => exact ⟨k + 1, by omega, by go_num, hb9⟩
        case measure => simp [intOf]; omega
      · subst hke
        go_wp2_with fail
        go_ret
        exact ⟨rfl, hb.out⟩
end Go.Proofs.YtkfhkfagmokjpaaDoor

namespace Go.Proofs.YtkfhkfagmokjpaaDoor
open Go.RowKit

set_option maxHeartbeats 8000000 in
set_option maxRecDepth 100000 in
theorem right_four (link : Bool) (n c k kd gx b1 o1 : Nat) (tx : List UInt8) (w : World) (hn : n ≤ 1000000000) (hkn : k < n) (hk5 : kd ≤ 5)
    (y0 : w.cell? ⟨gx, 0, none⟩ = some (.int .i64 (kd : Int))) (y1 : w.cell? ⟨gx, 1, none⟩ = some (.string (bs tx))) (hlk : link = true → kd ≠ 4)
    (hp : kd = 0 → ((bs tx).toList == []) = false ∧ (0 < k → ∃ pk : Nat, w.cell? ⟨b1, o1 + (k - 1) * 4, none⟩ = some (.int .i64 (pk : Int)) ∧ ((pk : Int) == 0) = false))
    (s2 s3 s4 s7 s8 s9 s10 s11 s12 s13 s14 s15 s16 s17 s18 s19 s20 s21 s22 s23 s24 s25 s26 s27 s28 s29 s30 s31 s32 s33 s34 s35 s36 s37 s38 s39 s40 s41 s42 s43 s44 s45 s46 s47 s48 s49 s50 s51 s52 s53 s54 s55 s56 s57 s58 s59 s60 s61 s62 s63 s64 s65 s66 s67 s68 s69 s70 s71 s72 s73 s74 s75 s76 s77 s78 s79 s80 s81 s82 s83 s84 : Value) (Qx : Exit → Act → World → Prop)
    (hk : ∀ (v14 v15 v16 v17 v18 v19 v20 v21 v22 v23 v24 v25 v26 v27 v28 v29 v30 v31 v32 v33 v34 v35 v36 v37 v38 v39 v40 v41 v42 v43 v44 v45 v46 v47 v48 v49 v50 v51 : Value), Qx .normal ⟨(.slice (some ⟨b1, o1, none⟩) n c :: .bool link :: s2 :: s3 :: s4 :: .int .i64 (k : Int) :: .pointer (some ⟨gx, 0, none⟩) :: s7 :: s8 :: s9 :: s10 :: s11 :: s12 :: s13 :: v14 :: v15 :: v16 :: v17 :: v18 :: v19 :: v20 :: v21 :: v22 :: v23 :: v24 :: v25 :: v26 :: v27 :: v28 :: v29 :: v30 :: v31 :: v32 :: v33 :: v34 :: v35 :: v36 :: v37 :: v38 :: v39 :: v40 :: v41 :: v42 :: v43 :: v44 :: v45 :: v46 :: v47 :: v48 :: v49 :: v50 :: v51 :: .bool false :: s53 :: s54 :: s55 :: s56 :: s57 :: s58 :: s59 :: s60 :: s61 :: s62 :: s63 :: s64 :: s65 :: s66 :: s67 :: s68 :: s69 :: s70 :: s71 :: s72 :: s73 :: s74 :: s75 :: s76 :: s77 :: s78 :: s79 :: s80 :: s81 :: s82 :: s83 :: s84 :: []).toArray, []⟩ w) :
    Code.wp Tryd.prog (regionAt Tryd.f6 4) Qx ⟨(.slice (some ⟨b1, o1, none⟩) n c :: .bool link :: s2 :: s3 :: s4 :: .int .i64 (k : Int) :: .pointer (some ⟨gx, 0, none⟩) :: s7 :: s8 :: s9 :: s10 :: s11 :: s12 :: s13 :: s14 :: s15 :: s16 :: s17 :: s18 :: s19 :: s20 :: s21 :: s22 :: s23 :: s24 :: s25 :: s26 :: s27 :: s28 :: s29 :: s30 :: s31 :: s32 :: s33 :: s34 :: s35 :: s36 :: s37 :: s38 :: s39 :: s40 :: s41 :: s42 :: s43 :: s44 :: s45 :: s46 :: s47 :: s48 :: s49 :: s50 :: s51 :: s52 :: s53 :: s54 :: s55 :: s56 :: s57 :: s58 :: s59 :: s60 :: s61 :: s62 :: s63 :: s64 :: s65 :: s66 :: s67 :: s68 :: s69 :: s70 :: s71 :: s72 :: s73 :: s74 :: s75 :: s76 :: s77 :: s78 :: s79 :: s80 :: s81 :: s82 :: s83 :: s84 :: []).toArray, []⟩ w := by
  replace hk := Lib.hid hk
  have n0 : ¬ ((kd : Int) < 0) := by omega
  have n5 : ¬ ((5 : Int) < (kd : Int)) := by omega
  have hlk' : link = true → ((kd : Int) == 4) = false := fun h => by rw [beq_eq_false_iff_ne]; have := hlk h; omega
  clear hlk
  conv => arg 2; whnf
  by_cases h0 : kd = 0
  · obtain ⟨ht0, hpk⟩ := hp h0
    have q0 : ((kd : Int) == 0) = true := by simp [h0]
    clear h0 hp
    rcases Nat.eq_zero_or_pos k with hk0 | hk0
    · have hk0' : ¬ (0 < k) := by omega
      replace hk0 := Lib.hid hk0
      clear hpk
      cases link with
      | true =>
        have q4 := hlk' rfl
        clear hlk'
        go_wp2
        exact hk.out _ _ _ _ _ _ _ _ _ _ _ _ _ _ _ _ _ _ _ _ _ _ _ _ _ _ _ _ _ _ _ _ _ _ _ _ _ _
      | false =>
        clear hlk'
        go_wp2
        exact hk.out _ _ _ _ _ _ _ _ _ _ _ _ _ _ _ _ _ _ _ _ _ _ _ _ _ _ _ _ _ _ _ _ _ _ _ _ _ _
    · obtain ⟨pk, z0, hz0⟩ := hpk hk0
      have hkm : (k : Int) - 1 = ((k - 1 : Nat) : Int) := by omega
      have hk1n : k - 1 < n := by omega
      clear hpk
      cases link with
      | true =>
        have q4 := hlk' rfl
        clear hlk'
        go_wp2
        exact hk.out _ _ _ _ _ _ _ _ _ _ _ _ _ _ _ _ _ _ _ _ _ _ _ _ _ _ _ _ _ _ _ _ _ _ _ _ _ _
      | false =>
        clear hlk'
        go_wp2
        exact hk.out _ _ _ _ _ _ _ _ _ _ _ _ _ _ _ _ _ _ _ _ _ _ _ _ _ _ _ _ _ _ _ _ _ _ _ _ _ _
  · have q0 : ((kd : Int) == 0) = false := by rw [beq_eq_false_iff_ne]; omega
    clear h0 hp
    cases link with
    | true =>
      have q4 := hlk' rfl
      clear hlk'
      go_wp2
      exact hk.out _ _ _ _ _ _ _ _ _ _ _ _ _ _ _ _ _ _ _ _ _ _ _ _ _ _ _ _ _ _ _ _ _ _ _ _ _ _
    | false =>
      clear hlk'
      go_wp2
      exact hk.out _ _ _ _ _ _ _ _ _ _ _ _ _ _ _ _ _ _ _ _ _ _ _ _ _ _ _ _ _ _ _ _ _ _ _ _ _ _

set_option maxHeartbeats 8000000 in
set_option maxRecDepth 100000 in
theorem right_six (link : Bool) (m kd gx : Nat) (A1 : Option Addr) (k1 : Nat) (w : World)
    (y0 : w.cell? ⟨gx, 0, none⟩ = some (.int .i64 (kd : Int))) (y3 : w.cell? ⟨gx, 3, none⟩ = some (.slice A1 m k1))
    (hcall : ∀ w', Below w.heap.size w w' → Calls Tryd.prog 6 #[.slice A1 m k1, .bool (link || kd == 4)] w' fun e w'' => e = .returned (.bool true) ∧ Below w'.heap.size w' w'')
    (hw3 : (link = true ∧ m = 0) ∨ (link = true ∧ 0 < m ∧ kd = 2) ∨ (link = true ∧ 0 < m ∧ kd = 3) ∨ (link = false ∧ m = 0) ∨ (link = false ∧ 0 < m ∧ kd = 2) ∨ (link = false ∧ 0 < m ∧ kd = 3) ∨ (link = false ∧ 0 < m ∧ kd = 4))
    (s0 s2 s3 s4 s5 s7 s8 s9 s10 s11 s12 s13 s14 s15 s16 s17 s18 s19 s20 s21 s22 s23 s24 s25 s26 s27 s28 s29 s30 s31 s32 s33 s34 s35 s36 s37 s38 s39 s40 s41 s42 s43 s44 s45 s46 s47 s48 s49 s50 s51 s52 s53 s54 s55 s56 s57 s58 s59 s60 s61 s62 s63 s64 s65 s66 s67 s68 s69 s70 s71 s72 s73 s74 s75 s76 s77 s78 s79 s80 s81 s82 s83 s84 : Value) (Qx : Exit → Act → World → Prop)
    (hk : ∀ (v53 v54 v55 v56 v57 v58 v59 v60 v61 v62 v63 v64 v65 v66 v67 v68 v69 v70 v71 v72 v73 v74 v75 v76 v77 v78 v79 v80 v81 v82 : Value) (wq : World), Below w.heap.size w wq → Qx .normal ⟨(s0 :: .bool link :: s2 :: s3 :: s4 :: s5 :: .pointer (some ⟨gx, 0, none⟩) :: s7 :: s8 :: s9 :: s10 :: s11 :: s12 :: s13 :: s14 :: s15 :: s16 :: s17 :: s18 :: s19 :: s20 :: s21 :: s22 :: s23 :: s24 :: s25 :: s26 :: s27 :: s28 :: s29 :: s30 :: s31 :: s32 :: s33 :: s34 :: s35 :: s36 :: s37 :: s38 :: s39 :: s40 :: s41 :: s42 :: s43 :: s44 :: s45 :: s46 :: s47 :: s48 :: s49 :: s50 :: s51 :: s52 :: v53 :: v54 :: v55 :: v56 :: v57 :: v58 :: v59 :: v60 :: v61 :: v62 :: v63 :: v64 :: v65 :: v66 :: v67 :: v68 :: v69 :: v70 :: v71 :: v72 :: v73 :: v74 :: v75 :: v76 :: v77 :: v78 :: v79 :: v80 :: v81 :: v82 :: .bool false :: s84 :: []).toArray, []⟩ wq) :
    Code.wp Tryd.prog (regionAt Tryd.f6 6) Qx ⟨(s0 :: .bool link :: s2 :: s3 :: s4 :: s5 :: .pointer (some ⟨gx, 0, none⟩) :: s7 :: s8 :: s9 :: s10 :: s11 :: s12 :: s13 :: s14 :: s15 :: s16 :: s17 :: s18 :: s19 :: s20 :: s21 :: s22 :: s23 :: s24 :: s25 :: s26 :: s27 :: s28 :: s29 :: s30 :: s31 :: s32 :: s33 :: s34 :: s35 :: s36 :: s37 :: s38 :: s39 :: s40 :: s41 :: s42 :: s43 :: s44 :: s45 :: s46 :: s47 :: s48 :: s49 :: s50 :: s51 :: s52 :: s53 :: s54 :: s55 :: s56 :: s57 :: s58 :: s59 :: s60 :: s61 :: s62 :: s63 :: s64 :: s65 :: s66 :: s67 :: s68 :: s69 :: s70 :: s71 :: s72 :: s73 :: s74 :: s75 :: s76 :: s77 :: s78 :: s79 :: s80 :: s81 :: s82 :: s83 :: s84 :: []).toArray, []⟩ w := by
  replace hk := Lib.hid hk
  conv => arg 2; whnf
  rcases hw3 with ⟨rfl, hm1⟩ | ⟨rfl, hm1, rfl⟩ | ⟨rfl, hm1, rfl⟩ | ⟨rfl, hm1⟩ | ⟨rfl, hm1, rfl⟩ | ⟨rfl, hm1, rfl⟩ | ⟨rfl, hm1, rfl⟩
  · have hm2 : ¬ (0 < m) := by omega
    replace hm1 := Lib.hid hm1
    rw [Bool.true_or] at hcall
    replace hcall := Lib.hid hcall
    go_wp2_with fail
    refine (hcall.out w (Below.refl _ _)).mono ?_
    rintro e w8 ⟨rfl, hb8⟩
    go_wp2
    exact hk.out _ _ _ _ _ _ _ _ _ _ _ _ _ _ _ _ _ _ _ _ _ _ _ _ _ _ _ _ _ _ w8 hb8
  · rw [Bool.true_or] at hcall
    replace hcall := Lib.hid hcall
    go_wp2_with fail
    refine (hcall.out w (Below.refl _ _)).mono ?_
    rintro e w8 ⟨rfl, hb8⟩
    go_wp2
    exact hk.out _ _ _ _ _ _ _ _ _ _ _ _ _ _ _ _ _ _ _ _ _ _ _ _ _ _ _ _ _ _ w8 hb8
  · rw [Bool.true_or] at hcall
    replace hcall := Lib.hid hcall
    go_wp2_with fail
    refine (hcall.out w (Below.refl _ _)).mono ?_
    rintro e w8 ⟨rfl, hb8⟩
    go_wp2
    exact hk.out _ _ _ _ _ _ _ _ _ _ _ _ _ _ _ _ _ _ _ _ _ _ _ _ _ _ _ _ _ _ w8 hb8
  · have hm2 : ¬ (0 < m) := by omega
    replace hm1 := Lib.hid hm1
    have hq : ((kd : Int) == 4) = (kd == 4) := by rw [Bool.eq_iff_iff, beq_iff_eq, beq_iff_eq]; omega
    rw [Bool.false_or] at hcall
    obtain ⟨bb, hbb⟩ : ∃ bb, bb = (kd == 4) := ⟨_, rfl⟩
    rw [← hbb] at hcall hq
    replace hcall := Lib.hid hcall
    clear hbb
    go_wp2_with fail
    refine (hcall.out w (Below.refl _ _)).mono ?_
    rintro e w8 ⟨rfl, hb8⟩
    go_wp2
    exact hk.out _ _ _ _ _ _ _ _ _ _ _ _ _ _ _ _ _ _ _ _ _ _ _ _ _ _ _ _ _ _ w8 hb8
  · replace hcall := Lib.hid hcall
    go_wp2_with fail
    refine (hcall.out w (Below.refl _ _)).mono ?_
    rintro e w8 ⟨rfl, hb8⟩
    go_wp2
    exact hk.out _ _ _ _ _ _ _ _ _ _ _ _ _ _ _ _ _ _ _ _ _ _ _ _ _ _ _ _ _ _ w8 hb8
  · replace hcall := Lib.hid hcall
    go_wp2_with fail
    refine (hcall.out w (Below.refl _ _)).mono ?_
    rintro e w8 ⟨rfl, hb8⟩
    go_wp2
    exact hk.out _ _ _ _ _ _ _ _ _ _ _ _ _ _ _ _ _ _ _ _ _ _ _ _ _ _ _ _ _ _ w8 hb8
  · replace hcall := Lib.hid hcall
    go_wp2_with fail
    refine (hcall.out w (Below.refl _ _)).mono ?_
    rintro e w8 ⟨rfl, hb8⟩
    go_wp2
    exact hk.out _ _ _ _ _ _ _ _ _ _ _ _ _ _ _ _ _ _ _ _ _ _ _ _ _ _ _ _ _ _ w8 hb8
end Go.Proofs.YtkfhkfagmokjpaaDoor

namespace Go.Proofs.YtkfhkfagmokjpaaDoor
open Go.RowKit

namespace Il
theorem okL_at {link : Bool} : ∀ {ts : List In} {p : Bool} (_ : okL link p ts = true) {k : Nat} (hk : k < ts.length), okI link ts[k] = true ∧ (isPlain ts[k] = true → textOf ts[k] ≠ [] ∧ (k = 0 → p = false) ∧ ∀ (h : 0 < k), isPlain (ts[k - 1]'(by omega)) = false)
  | [], _, _, k, hk => by simp at hk
  | x :: r, p, h, k, hk => by
    simp only [okL, Bool.and_eq_true, Bool.not_eq_true', Bool.and_eq_false_iff, Bool.or_eq_false_iff] at h
    obtain ⟨⟨h1, h2⟩, h3⟩ := h
    rcases k with _ | k
    · refine ⟨h1, fun hp => ?_⟩
      rcases h2 with h2 | h2
      · simp only [List.getElem_cons_zero] at hp; rw [hp] at h2; cases h2
      · refine ⟨fun e => ?_, fun _ => h2.2, fun h => absurd h (by omega)⟩
        simp only [List.getElem_cons_zero] at e
        rw [e] at h2; simp at h2
    · obtain ⟨g1, g2⟩ := okL_at h3 (k := k) (by simpa using hk)
      refine ⟨g1, fun hp => ?_⟩
      obtain ⟨g3, g4, g5⟩ := g2 hp
      refine ⟨g3, fun h => absurd h (by omega), fun _ => ?_⟩
      rcases k with _ | k
      · simpa using g4 rfl
      · have := g5 (by omega)
        simpa using this
/-- what is asked of one of them, by its kind -/
theorem okI_form {link : Bool} {kd : Nat} {t d : List UInt8} {ks : List In} (h : okI link (.mk kd t d ks) = true) : okL (link || kd == 4) false ks = true ∧ ((kd = 0 ∧ ks = []) ∨ (kd = 1 ∧ ks = []) ∨ kd = 2 ∨ kd = 3 ∨ (kd = 4 ∧ link = false) ∨ (kd = 5 ∧ ks = [])) := by
  simp only [okI, Bool.and_eq_true, Bool.or_eq_true, decide_eq_true_iff, Bool.not_eq_true', beq_iff_eq, Bool.and_eq_false_iff, List.isEmpty_iff] at h
  obtain ⟨⟨⟨h1, h2⟩, h3⟩, h4⟩ := h
  refine ⟨h4, ?_⟩
  have h2' : link = false ∨ kd ≠ 4 := by
    rcases h2 with h2 | h2
    · exact .inl h2
    · exact .inr (by simpa using h2)
  have h3' : ks = [] ∨ kd = 2 ∨ kd = 3 ∨ kd = 4 := by
    rcases h3 with ((h3 | h3) | h3) | h3
    · exact .inl h3
    · exact .inr (.inl h3)
    · exact .inr (.inr (.inl h3))
    · exact .inr (.inr (.inr h3))
  rcases h3' with h | h | h | h
  · rcases (show kd = 0 ∨ kd = 1 ∨ kd = 2 ∨ kd = 3 ∨ kd = 4 ∨ kd = 5 by omega) with e | e | e | e | e | e
    · exact .inl ⟨e, h⟩
    · exact .inr (.inl ⟨e, h⟩)
    · exact .inr (.inr (.inl e))
    · exact .inr (.inr (.inr (.inl e)))
    · refine .inr (.inr (.inr (.inr (.inl ⟨e, ?_⟩))))
      rcases h2' with h | h
      · exact h
      · exact absurd e h
    · exact .inr (.inr (.inr (.inr (.inr ⟨e, h⟩))))
  · exact .inr (.inr (.inl h))
  · exact .inr (.inr (.inr (.inl h)))
  · refine .inr (.inr (.inr (.inr (.inl ⟨h, ?_⟩))))
    rcases h2' with h' | h'
    · exact h'
    · exact absurd h h'
end Il

set_option maxHeartbeats 8000000 in
set_option maxRecDepth 100000 in
theorem right_any : ∀ (N : Nat) (ts : List Il.In) (_ : SizeOf.sizeOf ts ≤ N) (_ : ∀ t ∈ ts, Il.Few t) (_ : ts.length ≤ 1000000000) (link : Bool) (_ : Il.okL link false ts = true) (A : Option Addr) (c : Nat) (css : List (List Value)) (w : World) (Q : Nat → Prop) (_ : ∀ b, Q b → b < w.heap.size)
    (_ : RowI w Q 4 A ts.length css.flatten) (_ : ICs w Q ts css),
    Calls Tryd.prog 6 #[.slice A ts.length c, .bool link] w fun e w' => e = .returned (.bool true) ∧ Below w.heap.size w w'
  | 0, ts, hN, _, _, _, _, _, _, _, _, _, _, _, _ => by cases ts <;> simp at hN
  | N + 1, ts, hN, hF, hl, link, hok, A, c, css, w, Q, hQ, hR, hI => by
    have ih := right_any N
    replace hR := Lib.hid hR
    replace hI := Lib.hid hI
    go_enter Tryd.func6, Tryd.ntmps6
    go_wp2_with fail
    go_loopw [9] (fun u wr => ∃ k : Nat, k ≤ ts.length ∧ u = .int .i64 (k : Int) ∧ Hid (Below w.heap.size w wr)) (fun u _ => ts.length - (intOf u).toNat)
    case atStart => exact ⟨0, by omega, rfl, Lib.hid (Below.refl _ _)⟩
    case round =>
      obtain ⟨k, hk, rfl, hb⟩ := hrel
      rcases Nat.lt_or_eq_of_le hk with hlt | hke
      · obtain ⟨cs, i1, i2⟩ := ICs_at hI.out hlt
        obtain ⟨b1, o1, rfl, hq1, hc1⟩ := hR.out.2 (by omega)
        have hFk := hF ts[k] (List.getElem_mem hlt)
        have hNk : SizeOf.sizeOf ts[k] < N + 1 := by have := List.sizeOf_lt_of_mem (List.getElem_mem hlt); omega
        obtain ⟨ho1, ho2⟩ := Il.okL_at hok hlt
        have hl1 := hQ _ hq1
        have hbw := hb.out
        -- the one ahead
        have hprev : 0 < k → ∃ pk : Nat, wr.cell? ⟨b1, o1 + (k - 1) * 4, none⟩ = some (.int .i64 (pk : Int)) ∧ (Il.isPlain ts[k] = true → pk ≠ 0) := by
          intro h0
          have hlt2 : k - 1 < ts.length := by omega
          obtain ⟨ds, j1, j2⟩ := ICs_at hI.out hlt2
          have hpl := fun hp => (ho2 hp).2.2 h0
          generalize ts[k - 1] = t' at j1 hpl
          obtain ⟨kd', t2, d2, ks2⟩ := t'
          obtain ⟨_, _, _, rfl, _⟩ := IC_form j1
          refine ⟨kd', ?_, fun hp e => ?_⟩
          · have := (hbw.cell (p := ⟨b1, o1 + ((k - 1) * 4 + 0), none⟩) hl1).trans (hc1 _ _ (j2 0 (by omega)))
            simpa using this
          · have := hpl hp
            rw [e] at this
            simp [Il.isPlain, Il.kindOf] at this
        obtain ⟨n, hn⟩ : ∃ n, n = ts.length := ⟨_, rfl⟩
        generalize ts[k] = t at i1 hFk hNk ho1 ho2 hprev
        rw [← hn] at hlt hl ⊢
        clear hn
        obtain ⟨kd, tx, de, ks⟩ := t
        obtain ⟨A1, k1, cs2, rfl, hk1, r1, s1⟩ := IC_form i1
        have x0 := (hbw.cell (p := ⟨b1, o1 + (k * 4 + 0), none⟩) hl1).trans (hc1 _ _ (i2 0 (by omega)))
        have x1 := (hbw.cell (p := ⟨b1, o1 + (k * 4 + 1), none⟩) hl1).trans (hc1 _ _ (i2 1 (by omega)))
        have x2 := (hbw.cell (p := ⟨b1, o1 + (k * 4 + 2), none⟩) hl1).trans (hc1 _ _ (i2 2 (by omega)))
        have x3 := (hbw.cell (p := ⟨b1, o1 + (k * 4 + 3), none⟩) hl1).trans (hc1 _ _ (i2 3 (by omega)))
        simp only [← Nat.add_assoc, Nat.add_zero] at x0 x1 x2 x3
        obtain ⟨_, hF2, hF3⟩ : kd ≤ 1000 ∧ ks.length ≤ 1000000000 ∧ ∀ x ∈ ks, Il.Few x := by cases hFk with | mk a b c => exact ⟨a, b, c⟩
        simp only [Il.In.mk.sizeOf_spec] at hNk
        obtain ⟨hok2, hway⟩ := Il.okI_form ho1
        have hcall := fun w' (hb' : Below w.heap.size w w') => ih ks (by omega) hF3 hF2 (link || kd == 4) hok2 A1 k1 cs2 w' Q (fun b h => Nat.lt_of_lt_of_le (hQ b h) hb'.size) (r1.frame (fun b h => hb'.block b (hQ b h)) (fun _ h => h)) (ICs_frame (fun b h => hb'.block b (hQ b h)) (fun _ h => h) s1)
        replace hcall := Lib.hid hcall
        have hpl2 : kd = 0 → ((bs tx).toList == []) = false ∧ (0 < k → ∃ pk : Nat, wr.cell? ⟨b1, o1 + (k - 1) * 4, none⟩ = some (.int .i64 (pk : Int)) ∧ ((pk : Int) == 0) = false) := by
          intro e
          have hp : Il.isPlain (.mk kd tx de ks) = true := by rw [e]; rfl
          refine ⟨?_, fun h0 => ?_⟩
          · rw [bs_toList]
            have := (ho2 hp).1
            cases tx with
            | nil => exact absurd rfl this
            | cons a b => rfl
          · obtain ⟨pk, h1, h2⟩ := hprev h0
            exact ⟨pk, h1, by rw [beq_eq_false_iff_ne]; have := h2 hp; omega⟩
        clear ih hc1 i1 i2 r1 s1 hFk hF3 ho1 ho2 hok2 hprev
        have hbr : b1 < wr.heap.size := Nat.lt_of_lt_of_le hl1 hbw.size
        go_upto_region 4 with fail
        generalize hw4 : World.alloc wr _ = w4
        have hb4 : Below wr.heap.size wr w4 := by rw [← hw4]; exact ext_alloc _ _
        have y0 : w4.cell? ⟨wr.heap.size, 0, none⟩ = some (.int .i64 (kd : Int)) := by rw [← hw4]; exact World.cell?_alloc_at _ _ _ _ rfl
        have y1 : w4.cell? ⟨wr.heap.size, 1, none⟩ = some (.string (bs tx)) := by rw [← hw4]; exact World.cell?_alloc_at _ _ _ _ rfl
        have y3 : w4.cell? ⟨wr.heap.size, 3, none⟩ = some (.slice A1 ks.length k1) := by rw [← hw4]; exact World.cell?_alloc_at _ _ _ _ rfl
        have hgx4 : wr.heap.size < w4.heap.size := by rw [← hw4]; simp
        have hpl3 : kd = 0 → ((bs tx).toList == []) = false ∧ (0 < k → ∃ pk : Nat, w4.cell? ⟨b1, o1 + (k - 1) * 4, none⟩ = some (.int .i64 (pk : Int)) ∧ ((pk : Int) == 0) = false) := by
          intro e
          obtain ⟨h1, h2⟩ := hpl2 e
          refine ⟨h1, fun h0 => ?_⟩
          obtain ⟨pk, h3, h4⟩ := h2 h0
          exact ⟨pk, (hb4.cell (p := ⟨b1, _, none⟩) hbr).trans h3, h4⟩
        clear hw4 hpl2
        have hb1w : b1 < w4.heap.size := Nat.lt_of_lt_of_le hbr hb4.size
        have hb5 := Lib.hid (ext_trans hbw hb4)
        clear hbw hb hb4 hbr x0 x1 x2 x3
        generalize wr.heap.size = gx at y0 y1 y3 hgx4 ⊢
        obtain ⟨m, hm⟩ : ∃ m, m = ks.length := ⟨_, rfl⟩
        have hm0 : ks = [] → m = 0 := fun h => by rw [hm, h]; rfl
        rw [← hm] at hcall y3 hk1 hF2
        have hw2 : (kd = 0 ∧ m = 0) ∨ (kd = 1 ∧ m = 0) ∨ (kd = 5 ∧ m = 0) ∨ (kd = 2 ∧ m = 0) ∨ (kd = 2 ∧ 0 < m) ∨ (kd = 3 ∧ m = 0) ∨ (kd = 3 ∧ 0 < m) ∨ (kd = 4 ∧ link = false ∧ m = 0) ∨ (kd = 4 ∧ link = false ∧ 0 < m) := by
          rcases hway with ⟨h, h'⟩ | ⟨h, h'⟩ | h | h | ⟨h, h'⟩ | ⟨h, h'⟩
          · exact .inl ⟨h, hm0 h'⟩
          · exact .inr (.inl ⟨h, hm0 h'⟩)
          · rcases Nat.eq_zero_or_pos m with hz | hz
            · exact .inr (.inr (.inr (.inl ⟨h, hz⟩)))
            · exact .inr (.inr (.inr (.inr (.inl ⟨h, hz⟩))))
          · rcases Nat.eq_zero_or_pos m with hz | hz
            · exact .inr (.inr (.inr (.inr (.inr (.inl ⟨h, hz⟩)))))
            · exact .inr (.inr (.inr (.inr (.inr (.inr (.inl ⟨h, hz⟩))))))
          · rcases Nat.eq_zero_or_pos m with hz | hz
            · exact .inr (.inr (.inr (.inr (.inr (.inr (.inr (.inl ⟨h, h', hz⟩)))))))
            · exact .inr (.inr (.inr (.inr (.inr (.inr (.inr (.inr ⟨h, h', hz⟩)))))))
          · exact .inr (.inr (.inl ⟨h, hm0 h'⟩))
        clear hway hm hm0 hNk
        have hk5 : kd ≤ 5 := by omega
        have hlk : link = true → kd ≠ 4 := fun h => by rcases hw2 with x | x | x | x | x | x | x | ⟨x, x', _⟩ | ⟨x, x', _⟩ <;> first | omega | (rw [h] at x'; cases x')
        have hw3 : (link = true ∧ m = 0) ∨ (link = true ∧ 0 < m ∧ kd = 2) ∨ (link = true ∧ 0 < m ∧ kd = 3) ∨ (link = false ∧ m = 0) ∨ (link = false ∧ 0 < m ∧ kd = 2) ∨ (link = false ∧ 0 < m ∧ kd = 3) ∨ (link = false ∧ 0 < m ∧ kd = 4) := by
          cases link with
          | true =>
            rcases hw2 with x | x | x | x | x | x | x | ⟨_, x, _⟩ | ⟨_, x, _⟩
            · exact .inl ⟨rfl, x.2⟩
            · exact .inl ⟨rfl, x.2⟩
            · exact .inl ⟨rfl, x.2⟩
            · exact .inl ⟨rfl, x.2⟩
            · exact .inr (.inl ⟨rfl, x.2, x.1⟩)
            · exact .inl ⟨rfl, x.2⟩
            · exact .inr (.inr (.inl ⟨rfl, x.2, x.1⟩))
            · cases x
            · cases x
          | false =>
            rcases hw2 with x | x | x | x | x | x | x | ⟨x, _, y⟩ | ⟨x, _, y⟩
            · exact .inr (.inr (.inr (.inl ⟨rfl, x.2⟩)))
            · exact .inr (.inr (.inr (.inl ⟨rfl, x.2⟩)))
            · exact .inr (.inr (.inr (.inl ⟨rfl, x.2⟩)))
            · exact .inr (.inr (.inr (.inl ⟨rfl, x.2⟩)))
            · exact .inr (.inr (.inr (.inr (.inl ⟨rfl, x.2, x.1⟩))))
            · exact .inr (.inr (.inr (.inl ⟨rfl, x.2⟩)))
            · exact .inr (.inr (.inr (.inr (.inr (.inl ⟨rfl, x.2, x.1⟩)))))
            · exact .inr (.inr (.inr (.inl ⟨rfl, y⟩)))
            · exact .inr (.inr (.inr (.inr (.inr (.inr ⟨rfl, y, x⟩)))))
        clear hw2
        refine right_four link n c k kd gx b1 o1 tx w4 hl hlt hk5 y0 y1 hlk hpl3 _ _ _ _ _ _ _ _ _ _ _ _ _ _ _ _ _ _ _ _ _ _ _ _ _ _ _ _ _ _ _ _ _ _ _ _ _ _ _ _ _ _ _ _ _ _ _ _ _ _ _ _ _ _ _ _ _ _ _ _ _ _ _ _ _ _ _ _ _ _ _ _ _ _ _ _ _ _ _ _ _ _ ?_
        intro v14 v15 v16 v17 v18 v19 v20 v21 v22 v23 v24 v25 v26 v27 v28 v29 v30 v31 v32 v33 v34 v35 v36 v37 v38 v39 v40 v41 v42 v43 v44 v45 v46 v47 v48 v49 v50 v51
        clear hpl3 hlk hk5 y1
        go_upto_region 6 with fail
        refine right_six link m kd gx A1 k1 w4 y0 y3 (fun w' h => hcall.out w' (ext_trans hb5.out h)) hw3 _ _ _ _ _ _ _ _ _ _ _ _ _ _ _ _ _ _ _ _ _ _ _ _ _ _ _ _ _ _ _ _ _ _ _ _ _ _ _ _ _ _ _ _ _ _ _ _ _ _ _ _ _ _ _ _ _ _ _ _ _ _ _ _ _ _ _ _ _ _ _ _ _ _ _ _ _ _ _ _ _ _ _ _ ?_
        intro v53 v54 v55 v56 v57 v58 v59 v60 v61 v62 v63 v64 v65 v66 v67 v68 v69 v70 v71 v72 v73 v74 v75 v76 v77 v78 v79 v80 v81 v82 wq hb6
        have hb8 := Lib.hid (ext_trans hb5.out hb6)
        clear hcall hb5 hb6 y0 y3 hw3
        go_wp2_with fail
        go_roundw
        case rel => exact ⟨k + 1, by omega, by go_num, hb8⟩
        case measure => simp [intOf]; omega
      · subst hke
        go_wp2_with fail
        go_ret
        exact ⟨rfl, hb.out⟩
end Go.Proofs.YtkfhkfagmokjpaaDoor

namespace Go.Proofs.YtkfhkfagmokjpaaDoor.Il
open Go.Lib

theorem at_drop {s : List UInt8} {i : Nat} {b : UInt8} {r : List UInt8} (h : s.drop i = b :: r) : ∃ hi : i < s.length, s[i] = b ∧ s.drop (i + 1) = r := by
  have hi : i < s.length := by
    rcases Nat.lt_or_ge i s.length with h1 | h1
    · exact h1
    · rw [List.drop_eq_nil_of_le h1] at h; cases h
  rw [List.drop_eq_getElem_cons hi] at h
  injection h with h1 h2
  exact ⟨hi, h1, h2⟩
theorem at_getD {s : List UInt8} {i : Nat} {b : UInt8} {r : List UInt8} (h : s.drop i = b :: r) : s.getD i 0 = b := by
  obtain ⟨hi, h1, _⟩ := at_drop h
  rw [List.getD_eq_getElem?_getD, List.getElem?_eq_getElem hi]; exact h1
theorem auto_none {s : List UInt8} {i : Nat} {b : UInt8} {r : List UInt8} (h : s.drop i = b :: r) (hb : b ≠ 60) : Lk.auto s (i : Int) = none := by
  refine Lk.auto_off (Lk.starts_no (.inr (.inl ?_)))
  rw [at_getD h]; exact hb
theorem link_none {s : List UInt8} {i : Nat} {b : UInt8} {r : List UInt8} (h : s.drop i = b :: r) (hb : b ≠ 91) : linkAt s i = none := by
  unfold linkAt
  rw [Lk.close_off (.inr (by rw [at_getD h]; exact hb))]
theorem kind_none {s : List UInt8} {i : Nat} {b : UInt8} {r : List UInt8} (h : s.drop i = b :: r) (h1 : b ≠ 42) (h2 : b ≠ 95) : Em.kind s (i : Int) = none := by
  obtain ⟨hi, e, _⟩ := at_drop h
  refine Em.kind_off (Em.starts_no (.inr (.inr (.inl ⟨by simpa using hi, ?_, ?_⟩))))
  · have : s[((i : Int)).toNat]'(by simpa using hi) = s[i] := by simp
    rw [this, e]; exact h1
  · have : s[((i : Int)).toNat]'(by simpa using hi) = s[i] := by simp
    rw [this, e]; exact h2
/-- a byte below 128, no backslash: it stands for itself -/
theorem next_low {s : List UInt8} {i : Nat} {b : UInt8} {r : List UInt8} (h : s.drop i = b :: r) (hb : b.toNat < 128) (h92 : b ≠ 92) : Es.next s i = (b.toNat, i + 1, false) := by
  obtain ⟨hi, _, _⟩ := at_drop h
  rw [Es.next_in hi, h, Es.step_no (Es.isEsc_high h92), Es.decodeL_low hb]
theorem enc_low {b : UInt8} (hb : b.toNat < 128) : encodeRune ((b.toNat : Nat) : Int) = [b] := by
  rw [encodeRune, encodeRuneZ_one (by omega) (by omega)]; simp

/-- one piece: what it is where no sign stands -/
theorem piece_low (link : Bool) (inner : List UInt8 → List In) {s : List UInt8} {i : Nat} {b : UInt8} {r : List UInt8} (h : s.drop i = b :: r) (hb : b.toNat < 128) (hq : b ≠ 96 ∧ b ≠ 60 ∧ b ≠ 91 ∧ b ≠ 42 ∧ b ≠ 95 ∧ b ≠ 10 ∧ b ≠ 92) (st : Sc) :
    piece link inner s i st = (i + 1, ⟨pput st.l [b], st.runs⟩) := by
  obtain ⟨q1, q2, q3, q4, q5, q6, q7⟩ := hq
  unfold piece
  rw [at_getD h, if_neg q1, auto_none h q2, link_none h q3, kind_none h q4 q5, next_low h hb q7, enc_low hb]
  have e : ∀ (α : Type) (x : Option α), (if link = true then none else (none : Option α)) = none := fun α x => by split <;> rfl
  simp only [ite_self, if_neg q6]
/-- a run -/
theorem piece_run (link : Bool) (inner : List UInt8 → List In) {s : List UInt8} {i : Nat} {b : UInt8} {r : List UInt8} (h : s.drop i = b :: r) (hb : b = 42 ∨ b = 95) {x : Em.R} {e : Nat} (hk : Em.kind s (i : Int) = some (x, e)) (st : Sc) :
    piece link inner s i st = (e, ⟨st.l ++ [⟨none_, some st.runs.length, x.n.toNat, x.ch⟩], st.runs ++ [x]⟩) := by
  unfold piece
  rw [at_getD h, if_neg (by rcases hb with rfl | rfl <;> decide), auto_none h (by rcases hb with rfl | rfl <;> decide), link_none h (by rcases hb with rfl | rfl <;> decide), hk]
  simp only [ite_self]
theorem small_quiet {b : UInt8} (h : Lk.small b = true) : b.toNat < 128 ∧ (b ≠ 96 ∧ b ≠ 60 ∧ b ≠ 91 ∧ b ≠ 42 ∧ b ≠ 95 ∧ b ≠ 10 ∧ b ≠ 92) := by
  have hh := (Lk.small_iff b).1 h
  refine ⟨by omega, ?_, ?_, ?_, ?_, ?_, ?_, ?_⟩ <;> (intro e; rw [e] at hh; revert hh; decide)
/-- letters behind a plain -/
theorem scan_letters (link : Bool) (inner : List UInt8 → List In) {s : List UInt8} : ∀ (V : List UInt8) (i : Nat) (T : List UInt8) (L : List Pt) (runs : List Em.R) (r : List UInt8), s.drop i = V ++ r → (∀ b ∈ V, Lk.small b = true) →
    scan link inner s i ⟨L ++ [⟨.mk 0 T [] [], none, 0, 0⟩], runs⟩ = scan link inner s (i + V.length) ⟨L ++ [⟨.mk 0 (T ++ V) [] [], none, 0, 0⟩], runs⟩
  | [], i, T, L, runs, r, _, _ => by simp
  | b :: V, i, T, L, runs, r, h, hV => by
    rw [List.cons_append] at h
    obtain ⟨hi, _, hd⟩ := at_drop h
    obtain ⟨q1, q2⟩ := small_quiet (hV b (by simp))
    rw [scan_step link inner hi, piece_low link inner h q1 q2]
    simp only [pput_join]
    rw [scan_letters link inner V (i + 1) (T ++ [b]) L runs r hd (fun c hc => hV c (by simp [hc]))]
    rw [show i + 1 + V.length = i + (b :: V).length from by rw [List.length_cons]; omega, List.append_assoc]; rfl

/-! ### how a run around a word is judged -/
theorem letter_kind : ∀ x < 26, blankB ((x + 97 : Nat) : Int) = false ∧ punctB ((x + 97 : Nat) : Int) = false := by decide +kernel
theorem letter_of {x : Nat} (h1 : 97 ≤ x) (h2 : x ≤ 122) : blankB (x : Int) = false ∧ punctB (x : Int) = false := by
  have := letter_kind (x - 97) (by omega)
  rwa [show x - 97 + 97 = x from by omega] at this
theorem judge_open {c : UInt8} (hc : c = 42 ∨ c = 95) (n : Nat) {x : Nat} (h1 : 97 ≤ x) (h2 : x ≤ 122) : Em.judge c n 32 x = ⟨c, n, true, false⟩ := by
  obtain ⟨a, b⟩ := letter_of h1 h2
  have b32 : blankB ((32 : Nat) : Int) = true := by decide
  rcases hc with rfl | rfl
  · unfold Em.judge Em.leanB; rw [if_neg (by decide), a, b, b32]; rfl
  · unfold Em.judge Em.leanB; rw [if_pos rfl, a, b, b32]; rfl
theorem judge_shut {c : UInt8} (hc : c = 42 ∨ c = 95) (n : Nat) {x : Nat} (h1 : 97 ≤ x) (h2 : x ≤ 122) : Em.judge c n x 32 = ⟨c, n, false, true⟩ := by
  obtain ⟨a, b⟩ := letter_of h1 h2
  have b32 : blankB ((32 : Nat) : Int) = true := by decide
  rcases hc with rfl | rfl
  · unfold Em.judge Em.leanB; rw [if_neg (by decide), a, b, b32]; rfl
  · unfold Em.judge Em.leanB; rw [if_pos rfl, a, b, b32]; rfl
theorem runes_low : ∀ (l : List UInt8), (∀ b ∈ l, b.toNat < 128) → Ru.runes l = l.map (·.toNat)
  | [], _ => Ru.runes_nil
  | b :: l, h => by
    rw [Ru.runes_step (by simp), Es.decodeL_low (h b (by simp))]
    simp only [List.drop_succ_cons, List.drop_zero, List.map_cons]
    rw [runes_low l (fun c hc => h c (by simp [hc]))]
theorem sign_low {c : UInt8} (hc : c = 42 ∨ c = 95) : c.toNat < 128 := by rcases hc with rfl | rfl <;> decide
theorem sign_no {c b : UInt8} (hc : c = 42 ∨ c = 95) (hb : Lk.small b = true) : b ≠ c := by
  obtain ⟨_, _, _, _, h1, h2, _⟩ := small_quiet hb
  rcases hc with rfl | rfl <;> assumption

/-- a word between signs -/
def stressed (c : UInt8) (k : Nat) (W : List UInt8) : List UInt8 := List.replicate k c ++ (W ++ List.replicate k c)
theorem stressed_len (c : UInt8) (k : Nat) (W : List UInt8) : (stressed c k W).length = k + (W.length + k) := by simp [stressed]
theorem kind_open {c : UInt8} (hc : c = 42 ∨ c = 95) {k : Nat} (hk : 1 ≤ k) {b : UInt8} {V : List UInt8} (hb : Lk.small b = true) : Em.kind (stressed c k (b :: V)) ((0 : Nat) : Int) = some (⟨c, k, true, false⟩, k) := by
  have hl := stressed_len c k (b :: V)
  have h0 : 0 < (stressed c k (b :: V)).length := by omega
  have e0 : (stressed c k (b :: V))[0] = c := by
    have h1 : (stressed c k (b :: V)).drop 0 = c :: (List.replicate (k - 1) c ++ (b :: V ++ List.replicate k c)) := by
      obtain ⟨m, rfl⟩ : ∃ m, k = m + 1 := ⟨k - 1, by omega⟩
      rfl
    exact (at_drop h1).2.1
  have hrun : Fn.run c ((stressed c k (b :: V)).drop 0) = k := by
    rw [List.drop_zero]; unfold stressed
    rw [Fn.run_rep, List.cons_append, Fn.run_stop _ (sign_no hc hb)]; rfl
  have hd : (stressed c k (b :: V)).drop k = b :: (V ++ List.replicate k c) := by
    unfold stressed
    rw [List.drop_left' (by simp)]; rfl
  rw [Em.kind_on h0 (Em.starts_yes h0 (by rw [e0]; exact hc) (.inl rfl)), e0, hrun]
  have hk2 : 0 + k < (stressed c k (b :: V)).length := by rw [hl, List.length_cons]; omega
  obtain ⟨q1, q2⟩ := (Lk.small_iff b).1 hb
  rw [Em.behind_in hk2, Nat.zero_add, hd, Es.decodeL_low (by omega)]
  show some (Em.judge c k 32 b.toNat, k) = _
  rw [judge_open hc k q1 q2]
theorem kind_shut {c : UInt8} (hc : c = 42 ∨ c = 95) {k : Nat} (hk : 1 ≤ k) {b : UInt8} {V : List UInt8} (hb : Lk.small b = true) (hV : ∀ x ∈ V, Lk.small x = true) :
    Em.kind (stressed c k (V ++ [b])) ((k + (V.length + 1) : Nat) : Int) = some (⟨c, k, false, true⟩, k + (V.length + 1) + k) := by
  have hl := stressed_len c k (V ++ [b])
  rw [List.length_append, List.length_singleton] at hl
  have hi : k + (V.length + 1) < (stressed c k (V ++ [b])).length := by omega
  have hd : (stressed c k (V ++ [b])).drop (k + (V.length + 1)) = List.replicate k c := by
    unfold stressed
    rw [← List.append_assoc, List.drop_left' (by simp)]
  have e0 : (stressed c k (V ++ [b]))[k + (V.length + 1)] = c := by
    have h1 : (stressed c k (V ++ [b])).drop (k + (V.length + 1)) = c :: List.replicate (k - 1) c := by
      rw [hd]
      obtain ⟨m, rfl⟩ : ∃ m, k = m + 1 := ⟨k - 1, by omega⟩
      rfl
    exact (at_drop h1).2.1
  have e1 : (stressed c k (V ++ [b]))[k + V.length]'(by omega) = b := by
    have h1 : (stressed c k (V ++ [b])).drop (k + V.length) = b :: List.replicate k c := by
      unfold stressed
      rw [show List.replicate k c ++ (V ++ [b] ++ List.replicate k c) = (List.replicate k c ++ V) ++ (b :: List.replicate k c) from by simp, List.drop_left' (by simp)]
    exact (at_drop h1).2.1
  have hrun : Fn.run c ((stressed c k (V ++ [b])).drop (k + (V.length + 1))) = k := by
    rw [hd]
    have := Fn.run_rep c k []
    rw [List.append_nil] at this
    rw [this]; rfl
  have hah : Em.ahead (stressed c k (V ++ [b])) (k + (V.length + 1)) = b.toNat := by
    unfold Em.ahead
    have ht : (stressed c k (V ++ [b])).take (k + (V.length + 1)) = (List.replicate k c ++ V) ++ [b] := by
      unfold stressed
      rw [← List.append_assoc, List.take_left' (by simp), List.append_assoc]
    rw [ht, runes_low, List.map_append, List.map_cons, List.map_nil, List.getLastD_concat]
    intro x hx
    simp only [List.mem_append, List.mem_replicate, List.mem_singleton] at hx
    rcases hx with (hx | hx) | hx
    · rw [hx.2]; exact sign_low hc
    · exact (small_quiet (hV x hx)).1
    · rw [hx]; exact (small_quiet hb).1
  obtain ⟨q1, q2⟩ := (Lk.small_iff b).1 hb
  rw [Em.kind_on hi (Em.starts_yes hi (by rw [e0]; exact hc) (.inr ⟨by omega, by
    have : k + (V.length + 1) - 1 = k + V.length := by omega
    simp only [this, e0, e1]
    exact sign_no hc hb⟩)), e0, hrun, hah, Em.behind_out (by omega), judge_shut hc k q1 q2]

theorem stress_two {c : UInt8} (hc : c = 42 ∨ c = 95) {k : Nat} (hk : k = 1 ∨ k = 2) (b : UInt8) (V : List UInt8) :
    stress [⟨none_, some 0, k, c⟩, ⟨.mk 0 (b :: V) [] [], none, 0, 0⟩, ⟨none_, some 1, k, c⟩] [⟨c, k, true, false⟩, ⟨c, k, false, true⟩] = [.mk (k + 1) [] [] [word (b :: V)]] := by
  rcases hc with rfl | rfl <;> rcases hk with rfl | rfl <;> rfl
theorem within_stressed (link : Bool) (inner : List UInt8 → List In) {c : UInt8} (hc : c = 42 ∨ c = 95) {k : Nat} (hk : k = 1 ∨ k = 2) {b : UInt8} {V : List UInt8} (hW : ∀ x ∈ b :: V, Lk.small x = true) :
    within link inner (stressed c k (b :: V)) = [.mk (k + 1) [] [] [word (b :: V)]] := by
  have hk1 : 1 ≤ k := by omega
  have hb := hW b (by simp)
  obtain ⟨V0, z, hVz⟩ : ∃ V0 z, b :: V = V0 ++ [z] := by
    rcases List.eq_nil_or_concat (b :: V) with h | ⟨V0, z, h⟩
    · cases h
    · exact ⟨V0, z, by rw [h, List.concat_eq_append]⟩
  have hz := hW z (by rw [hVz]; simp)
  have hV0 : ∀ x ∈ V0, Lk.small x = true := fun x hx => hW x (by rw [hVz]; simp [hx])
  have hlen : (b :: V).length = V0.length + 1 := by rw [hVz]; simp
  have d0 : (stressed c k (b :: V)).drop 0 = c :: (List.replicate (k - 1) c ++ (b :: V ++ List.replicate k c)) := by
    obtain ⟨m, rfl⟩ : ∃ m, k = m + 1 := ⟨k - 1, by omega⟩
    rfl
  have d1 : (stressed c k (b :: V)).drop k = b :: (V ++ List.replicate k c) := by
    unfold stressed; rw [List.drop_left' (by simp)]; rfl
  have d2 : (stressed c k (b :: V)).drop (k + (b :: V).length) = c :: List.replicate (k - 1) c := by
    unfold stressed
    rw [← List.append_assoc, List.drop_left' (by simp)]
    obtain ⟨m, rfl⟩ : ∃ m, k = m + 1 := ⟨k - 1, by omega⟩
    rfl
  obtain ⟨i0, _, _⟩ := at_drop d0
  obtain ⟨i1, _, d1'⟩ := at_drop d1
  obtain ⟨i2, _, _⟩ := at_drop d2
  obtain ⟨q1, q2⟩ := small_quiet hb
  have ks : Em.kind (stressed c k (b :: V)) ((k + (b :: V).length : Nat) : Int) = some (⟨c, k, false, true⟩, k + (b :: V).length + k) := by
    rw [hlen, hVz]; exact kind_shut hc hk1 hz hV0
  unfold within
  have hsc : scan link inner (stressed c k (b :: V)) 0 ⟨[], []⟩ = ⟨[⟨none_, some 0, k, c⟩, ⟨.mk 0 (b :: V) [] [], none, 0, 0⟩, ⟨none_, some 1, k, c⟩], [⟨c, k, true, false⟩, ⟨c, k, false, true⟩]⟩ := by
    rw [scan_step link inner i0, piece_run link inner d0 hc (kind_open hc hk1 hb)]
    simp only [List.nil_append, List.length_nil]
    rw [scan_step link inner i1, piece_low link inner d1 q1 q2]
    simp only
    rw [show ([⟨none_, some 0, ((k : Nat) : Int).toNat, c⟩] : List Pt) = [] ++ [⟨none_, some 0, ((k : Nat) : Int).toNat, c⟩] from rfl, pput_run]
    rw [show (word [b] : In) = .mk 0 [b] [] [] from rfl, scan_letters link inner V (k + 1) [b] _ _ (List.replicate k c) d1' (fun x hx => hW x (by simp [hx]))]
    rw [show k + 1 + V.length = k + (b :: V).length from by rw [List.length_cons]; omega]
    rw [scan_step link inner i2, piece_run link inner d2 hc ks]
    rw [scan_end link inner (by rw [stressed_len]; omega)]
    simp
  rw [hsc]
  exact stress_two hc hk b V

/-! ### as code -/
theorem run_not {T r : List UInt8} {j : Nat} (hT : ∀ b ∈ T, b ≠ 96) (hj : j < T.length) : Fn.run 96 ((T ++ r).drop j) = 0 := by
  rw [List.drop_append_of_le_length (by omega), List.drop_eq_getElem_cons hj, List.cons_append, Fn.run_stop _ (hT _ (List.getElem_mem hj))]
theorem span_one {T : List UInt8} (hT : ∀ b ∈ T, b ≠ 96 ∧ b ≠ 10 ∧ b ≠ 32) (h0 : 0 < T.length) : Cd.span (96 :: (T ++ [96])) ((0 : Nat) : Int) = some (T, T.length + 2) := by
  have hT96 : ∀ b ∈ T, b ≠ 96 := fun b hb => (hT b hb).1
  have hop : Cd.opens (96 :: (T ++ [96])) ((0 : Nat) : Int) = true := by unfold Cd.opens; refine decide_eq_true ⟨by omega, by simp, rfl, .inl rfl⟩
  have hrun : Fn.run 96 ((96 :: (T ++ [96])).drop ((0 : Nat) : Int).toNat) = 1 := by
    show Fn.run 96 (96 :: (T ++ [96])) = 1
    rw [Fn.run_go _ rfl]
    have := run_not (r := [96]) hT96 h0
    rw [List.drop_zero] at this
    rw [this]
  rw [Cd.span_on hop hrun]
  have hd : (96 :: (T ++ [96])).drop (T.length + 1) = [96] := by rw [List.drop_succ_cons, List.drop_left' rfl]
  have hf : Cd.find (96 :: (T ++ [96])) 1 (((0 : Nat) : Int).toNat + 1) = some (T.length + 1) := by
    refine Cd.find_is (p := T.length + 1) (by simp) (by rw [hd]; rfl) ?_ T.length 1 (by omega) ?_
    · rw [show T.length + 1 - 1 = T.length - 1 + 1 from by omega, List.getD_cons_succ, List.getD_eq_getElem?_getD, List.getElem?_append_left (by omega), List.getElem?_eq_getElem (by omega)]
      exact hT96 _ (List.getElem_mem _)
    · intro j h1 h2
      obtain ⟨m, rfl⟩ : ∃ m, j = m + 1 := ⟨j - 1, by omega⟩
      rw [List.drop_succ_cons, run_not hT96 (by omega)]; decide
  rw [hf]
  have hm : Go.Proofs.YtkfhkfagmokjpaaDoor.mid (96 :: (T ++ [96])) 1 (T.length + 1) = T := by
    unfold Go.Proofs.YtkfhkfagmokjpaaDoor.mid
    rw [List.drop_succ_cons, List.drop_zero, Nat.add_sub_cancel, List.take_left' rfl]
  have hflat : Cd.flat T = T := by
    unfold Cd.flat
    conv => rhs; rw [← List.map_id T]
    exact List.map_congr_left fun b hb => by unfold Cd.nl; rw [if_neg (hT b hb).2.1]; rfl
  have hg0 : T.getD 0 0 ∈ T := by
    rw [List.getD_eq_getElem?_getD, List.getElem?_eq_getElem h0]; exact List.getElem_mem _
  have hcl : Cd.clean T = T := by rw [Cd.clean_word h0 ⟨(hT _ hg0).2.2, (hT _ hg0).2.1⟩, hflat]
  show some (Cd.clean (Go.Proofs.YtkfhkfagmokjpaaDoor.mid (96 :: (T ++ [96])) 1 (T.length + 1)), T.length + 1 + 1) = _
  rw [hm, hcl]
theorem stress_code (T d : List UInt8) (ks : List In) : stress [⟨.mk 1 T d ks, none, 0, 0⟩] [] = [.mk 1 T d ks] := rfl
theorem stress_link (T d : List UInt8) (ks : List In) : stress [⟨.mk 4 T d ks, none, 0, 0⟩] [] = [.mk 4 T d ks] := rfl
theorem stress_word (b : UInt8) (V d : List UInt8) (ks : List In) : stress [⟨.mk 0 (b :: V) d ks, none, 0, 0⟩] [] = [.mk 0 (b :: V) d ks] := rfl
theorem parse_code {T : List UInt8} (hT : ∀ b ∈ T, b ≠ 96 ∧ b ≠ 10 ∧ b ≠ 32) (h0 : 0 < T.length) : parse (96 :: (T ++ [96])) = [.mk 1 T [] []] := by
  unfold parse within
  have hl : (96 :: (T ++ [96])).length = T.length + 2 := by simp
  have hsc : scan false inLink (96 :: (T ++ [96])) 0 ⟨[], []⟩ = ⟨[⟨.mk 1 T [] [], none, 0, 0⟩], []⟩ := by
    rw [scan_step false inLink (by omega)]
    have hp : piece false inLink (96 :: (T ++ [96])) 0 ⟨[], []⟩ = (T.length + 2, ⟨[⟨.mk 1 T [] [], none, 0, 0⟩], []⟩) := by
      unfold piece
      rw [if_pos (show (96 :: (T ++ [96])).getD 0 0 = 96 from rfl), span_one hT h0]; rfl
    rw [hp, scan_end false inLink (by omega)]
  rw [hsc]
  exact stress_code T [] []

/-! ### within a link -/
/-- a sign or a letter means nothing to a bracket -/
theorem closes_over {s : List UInt8} (d : Nat) : ∀ (V : List UInt8) (i : Nat) (r : List UInt8), s.drop i = V ++ r → (∀ b ∈ V, b.toNat < 128 ∧ b ≠ 96 ∧ b ≠ 60 ∧ b ≠ 91 ∧ b ≠ 93 ∧ b ≠ 92) → Lk.closes s i d = Lk.closes s (i + V.length) d
  | [], i, r, _, _ => by simp
  | b :: V, i, r, h, hV => by
    rw [List.cons_append] at h
    obtain ⟨hi, _, hd⟩ := at_drop h
    obtain ⟨q0, q1, q2, q3, q4, q5⟩ := hV b (by simp)
    obtain ⟨j1, j2⟩ := Lk.hop_next (l := s) (i := i) (by rw [at_getD h]; exact q1) (auto_none h q2)
    rw [next_low h q0 q5] at j1 j2
    simp only at j1 j2
    rw [if_neg (by decide)] at j2
    rw [Lk.closes_on hi (by rw [j2]; intro e; exact q4 (UInt8.toNat_inj.1 e)) (by rw [j2]; intro e; exact q3 (UInt8.toNat_inj.1 e)), j1]
    rw [closes_over d V (i + 1) r hd (fun c hc => hV c (by simp [hc]))]
    rw [show i + 1 + V.length = i + (b :: V).length from by rw [List.length_cons]; omega]
theorem dends_over {s : List UInt8} : ∀ (V : List UInt8) (i : Nat) (r : List UInt8), s.drop i = V ++ r → (∀ b ∈ V, Lk.small b = true) → Lk.dends s i = Lk.dends s (i + V.length)
  | [], i, r, _, _ => by simp
  | b :: V, i, r, h, hV => by
    rw [List.cons_append] at h
    obtain ⟨hi, _, hd⟩ := at_drop h
    have hb := (Lk.small_iff b).1 (hV b (by simp))
    have hbl := (letter_of hb.1 hb.2).1
    rw [Lk.dends_step hi, next_low h (by omega) (small_quiet (hV b (by simp))).2.2.2.2.2.2.2]
    have n1 : ¬ ((b.toNat, i + 1, false).2.2 = false ∧ (b.toNat, i + 1, false).1 = 41) := by simp only; omega
    have n2 : ¬ ((b.toNat, i + 1, false).2.2 = false ∧ ((b.toNat, i + 1, false).1 = 40 ∨ blankB (((b.toNat, i + 1, false).1 : Nat) : Int) = true)) := by
      simp only [hbl]
      rintro ⟨_, h | h⟩
      · omega
      · cases h
    rw [if_neg n1, if_neg n2]
    simp only
    rw [dends_over V (i + 1) r hd (fun c hc => hV c (by simp [hc]))]
    rw [show i + 1 + V.length = i + (b :: V).length from by rw [List.length_cons]; omega]
theorem plain_letters : ∀ (V : List UInt8), (∀ b ∈ V, Lk.small b = true) → Ru.enc (Es.plain V) = V
  | [], _ => by rw [Es.plain_nil]; rfl
  | b :: V, h => by
    obtain ⟨q1, q2⟩ := small_quiet (h b (by simp))
    rw [Es.plain_step (by simp), Es.step_no (Es.isEsc_high q2.2.2.2.2.2.2), Es.decodeL_low q1]
    simp only [List.drop_succ_cons, List.drop_zero]
    rw [Ru.enc_cons, enc_low q1, plain_letters V (fun c hc => h c (by simp [hc]))]; rfl
/-- a link of a text T to a word W -/
def linked (T W : List UInt8) : List UInt8 := 91 :: (T ++ (93 :: 40 :: (W ++ [41])))
theorem linked_len (T W : List UInt8) : (linked T W).length = T.length + W.length + 4 := by simp [linked]; omega
theorem link_at {T W : List UInt8} (hT : ∀ b ∈ T, b.toNat < 128 ∧ b ≠ 96 ∧ b ≠ 60 ∧ b ≠ 91 ∧ b ≠ 93 ∧ b ≠ 92) (hW : ∀ b ∈ W, Lk.small b = true) : linkAt (linked T W) 0 = some (W, T.length + 1, T.length + W.length + 4) := by
  have hl := linked_len T W
  have d1 : (linked T W).drop 1 = T ++ (93 :: 40 :: (W ++ [41])) := rfl
  have d2 : (linked T W).drop (T.length + 1) = 93 :: 40 :: (W ++ [41]) := by unfold linked; rw [List.drop_succ_cons, List.drop_left' rfl]
  have d3 : (linked T W).drop (T.length + 2) = 40 :: (W ++ [41]) := (at_drop d2).2.2
  have d4 : (linked T W).drop (T.length + 3) = W ++ [41] := (at_drop d3).2.2
  have d5 : (linked T W).drop (T.length + 3 + W.length) = [41] := by rw [← List.drop_drop, d4, List.drop_left' rfl]
  obtain ⟨i2, _, _⟩ := at_drop d2
  obtain ⟨i3, e3, _⟩ := at_drop d3
  obtain ⟨i5, _, _⟩ := at_drop d5
  have hcl : Lk.close (linked T W) ((0 : Nat) : Int) = some (T.length + 1) := by
    rw [Lk.close_on (by omega) rfl, closes_over 0 T 1 _ d1 hT, Nat.add_comm 1]
    obtain ⟨_, j2⟩ := Lk.hop_next (l := linked T W) (i := T.length + 1) (by rw [at_getD d2]; decide) (auto_none d2 (by decide))
    rw [next_low d2 (by decide) (by decide)] at j2
    exact Lk.closes_end i2 j2
  have hde : Lk.dest (linked T W) ((T.length + 2 : Nat) : Int) = some (W, T.length + W.length + 4) := by
    rw [Lk.dest_on i3 (by rw [at_getD d3]), dends_over W (T.length + 2 + 1) [41] d4 hW]
    rw [Lk.dends_step i5, next_low d5 (by decide) (by decide)]
    rw [if_pos ⟨rfl, rfl⟩]
    have hm : Go.Proofs.YtkfhkfagmokjpaaDoor.mid (linked T W) (T.length + 2 + 1) (T.length + 2 + 1 + W.length) = W := by
      unfold Go.Proofs.YtkfhkfagmokjpaaDoor.mid
      rw [d4, Nat.add_sub_cancel_left, List.take_left' rfl]
    simp only [Option.map_some, hm, plain_letters W hW]
    congr 2; omega
  unfold linkAt
  rw [hcl]
  simp only
  rw [show ((T.length + 1 : Nat) : Int) + 1 = ((T.length + 2 : Nat) : Int) from by omega, hde]
theorem parse_linked {T W : List UInt8} (hT : ∀ b ∈ T, b.toNat < 128 ∧ b ≠ 96 ∧ b ≠ 60 ∧ b ≠ 91 ∧ b ≠ 93 ∧ b ≠ 92) (hW : ∀ b ∈ W, Lk.small b = true) : parse (linked T W) = [.mk 4 [] W (inLink T)] := by
  have hl := linked_len T W
  unfold parse within
  have d0 : (linked T W).drop 0 = 91 :: (T ++ (93 :: 40 :: (W ++ [41]))) := rfl
  have hm : Go.Proofs.YtkfhkfagmokjpaaDoor.mid (linked T W) (0 + 1) (T.length + 1) = T := by
    unfold Go.Proofs.YtkfhkfagmokjpaaDoor.mid linked
    rw [List.drop_succ_cons, List.drop_zero, Nat.zero_add, Nat.add_sub_cancel, List.take_left' rfl]
  have hsc : scan false inLink (linked T W) 0 ⟨[], []⟩ = ⟨[⟨.mk 4 [] W (inLink T), none, 0, 0⟩], []⟩ := by
    rw [scan_step false inLink (by omega)]
    have hp : piece false inLink (linked T W) 0 ⟨[], []⟩ = (T.length + W.length + 4, ⟨[⟨.mk 4 [] W (inLink T), none, 0, 0⟩], []⟩) := by
      unfold piece
      rw [if_neg (by rw [at_getD d0]; decide), if_neg (by decide), auto_none d0 (by decide)]
      simp only
      rw [if_neg (by decide), link_at hT hW]
      simp only [hm, List.nil_append]
    rw [hp, scan_end false inLink (by omega)]
  rw [hsc]
  exact stress_link [] W _

/-! ### a text without signs -/
theorem high_enc {x : Nat} (hv : Ru.vr x) (h : 128 ≤ x) : ∃ b r, encodeRune (x : Int) = b :: r ∧ 128 ≤ b.toNat := by
  have hd := Ru.decode_encode x hv []
  rw [List.append_nil] at hd
  have hl := Ru.encodeRune_len (x : Int)
  cases he : encodeRune (x : Int) with
  | nil => rw [he] at hl; simp at hl
  | cons b r =>
    refine ⟨b, r, rfl, ?_⟩
    rcases Nat.lt_or_ge b.toNat 128 with h1 | h1
    · rw [he, Es.decodeL_low h1] at hd
      injection hd with h2 _
      omega
    · exact h1
theorem piece_high (link : Bool) (inner : List UInt8 → List In) {s : List UInt8} {i : Nat} {x : Nat} {r : List UInt8} (hv : Ru.vr x) (hx : 128 ≤ x) (h : s.drop i = encodeRune (x : Int) ++ r) (st : Sc) :
    i < s.length ∧ piece link inner s i st = (i + (encodeRune (x : Int)).length, ⟨pput st.l (encodeRune (x : Int)), st.runs⟩) := by
  obtain ⟨b, t, he, hb⟩ := high_enc hv hx
  have h2 : s.drop i = b :: (t ++ r) := by rw [h, he]; rfl
  obtain ⟨hi, _, _⟩ := at_drop h2
  have hne : ∀ c : UInt8, c.toNat < 128 → b ≠ c := fun c hc e => by rw [e] at hb; omega
  refine ⟨hi, ?_⟩
  unfold piece
  rw [at_getD h2, if_neg (hne 96 (by decide)), auto_none h2 (hne 60 (by decide)), link_none h2 (hne 91 (by decide)), kind_none h2 (hne 42 (by decide)) (hne 95 (by decide))]
  simp only [ite_self, if_neg (hne 10 (by decide))]
  rw [Es.next_in hi, h2, Es.step_no (Es.isEsc_high (hne 92 (by decide))), ← h2, h, Ru.decode_encode x hv]
theorem scan_high (link : Bool) (inner : List UInt8 → List In) {s : List UInt8} : ∀ (X : List Nat) (i : Nat) (T : List UInt8), s.drop i = Ru.enc X → (∀ x ∈ X, Ru.vr x ∧ 128 ≤ x) →
    scan link inner s i ⟨[⟨.mk 0 T [] [], none, 0, 0⟩], []⟩ = ⟨[⟨.mk 0 (T ++ Ru.enc X) [] [], none, 0, 0⟩], []⟩
  | [], i, T, h, _ => by
    rw [Ru.enc_nil] at h ⊢
    rw [scan_end link inner (by simpa using h), List.append_nil]
  | x :: X, i, T, h, hX => by
    rw [Ru.enc_cons] at h ⊢
    obtain ⟨hv, hx⟩ := hX x (by simp)
    obtain ⟨hi, hp⟩ := piece_high link inner hv hx h ⟨[⟨.mk 0 T [] [], none, 0, 0⟩], []⟩
    rw [scan_step link inner hi, hp]
    simp only
    rw [show ([⟨.mk 0 T [] [], none, 0, 0⟩] : List Pt) = [] ++ [⟨.mk 0 T [] [], none, 0, 0⟩] from rfl, pput_join, List.nil_append]
    rw [scan_high link inner X _ _ (by rw [← List.drop_drop, h, List.drop_left' rfl]) (fun y hy => hX y (by simp [hy])), List.append_assoc]
theorem parse_plain {X : List Nat} (hX : ∀ x ∈ X, Ru.vr x ∧ 128 ≤ x) : parse (Ru.enc X) = if X = [] then [] else [word (Ru.enc X)] := by
  unfold parse within
  cases X with
  | nil => rw [if_pos rfl]; rfl
  | cons x X =>
    rw [if_neg (by simp)]
    obtain ⟨hv, hx⟩ := hX x (by simp)
    obtain ⟨hi, hp⟩ := piece_high (s := Ru.enc (x :: X)) (i := 0) false inLink hv hx (r := Ru.enc X) (by rw [List.drop_zero, Ru.enc_cons]) ⟨[], []⟩
    obtain ⟨b, t, he, hb⟩ := high_enc hv hx
    have hsc : scan false inLink (Ru.enc (x :: X)) 0 ⟨[], []⟩ = ⟨[⟨.mk 0 (Ru.enc (x :: X)) [] [], none, 0, 0⟩], []⟩ := by
      rw [scan_step false inLink hi, hp]
      simp only [pput_nil, word]
      rw [scan_high false inLink X _ _ (by rw [Nat.zero_add, Ru.enc_cons, List.drop_left' rfl]) (fun y hy => hX y (by simp [hy]))]
      rw [Ru.enc_cons]
    rw [hsc, Ru.enc_cons, he]
    exact stress_word b (t ++ Ru.enc X) [] []
end Go.Proofs.YtkfhkfagmokjpaaDoor.Il
