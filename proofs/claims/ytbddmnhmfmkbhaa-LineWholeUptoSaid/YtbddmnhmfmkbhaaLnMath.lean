/- Plain mathematics of lines: what ends a line, where the first line of a text lies, all of them. No program is spoken of here. -/
import Derived.Test.YtbddmnhmfmkbhaaMem
namespace Go.Proofs.Ytbddmnhmfmkbhaa.Ln

/-- is the byte an end's -/
def isEnd (b : UInt8) : Bool := b == 10 || b == 13

/-- how many bytes at the head of l end a line -/
def endLen : List UInt8 → Nat
  | [] => 0
  | 13 :: 10 :: _ => 2
  | _ :: _ => 1

/-- how many bytes stand ahead of the first end -/
def run : List UInt8 → Nat
  | [] => 0
  | b :: r => if isEnd b then 0 else run r + 1

theorem run_le (l : List UInt8) : run l ≤ l.length := by
  induction l with
  | nil => simp [run]
  | cons b r ih => simp only [run]; split <;> simp <;> omega

theorem endLen_two (r : List UInt8) : endLen (13 :: 10 :: r) = 2 := rfl
theorem endLen_cr {x : UInt8} (r : List UInt8) (h : x ≠ 10) : endLen (13 :: x :: r) = 1 := by
  unfold endLen; split
  · simp_all
  · rename_i heq; injection heq with _ h2; injection h2 with h3 _; exact absurd h3 h
  · rfl
theorem endLen_one : endLen [13] = 1 := rfl
theorem endLen_else {x : UInt8} (r : List UInt8) (h : x ≠ 13) : endLen (x :: r) = 1 := by
  unfold endLen; split
  · simp_all
  · rename_i heq; injection heq with h3 _; exact absurd h3 h
  · rfl

theorem endLen_le (l : List UInt8) : endLen l ≤ l.length := by
  unfold endLen; split <;> simp

theorem endLen_pos {l : List UInt8} (h : 0 < l.length) : 1 ≤ endLen l := by
  match l, h with
  | [b], _ => unfold endLen; split <;> simp_all
  | b :: c :: r, _ => unfold endLen; split <;> simp_all

/-- the first line of what stands from at on: where its text ends -/
def eol (l : List UInt8) (at_ : Nat) : Nat := at_ + run (l.drop at_)
/-- .. and where the next one begins -/
def nxt (l : List UInt8) (at_ : Nat) : Nat := eol l at_ + endLen (l.drop (eol l at_))

theorem eol_le {l : List UInt8} {k : Nat} (h : k ≤ l.length) : eol l k ≤ l.length := by
  have := run_le (l.drop k); rw [List.length_drop] at this; unfold eol; omega
theorem le_eol (l : List UInt8) (k : Nat) : k ≤ eol l k := by unfold eol; omega
theorem nxt_le {l : List UInt8} {k : Nat} (h : k ≤ l.length) : nxt l k ≤ l.length := by
  have h1 := eol_le h
  have := endLen_le (l.drop (eol l k)); rw [List.length_drop] at this; unfold nxt; omega
theorem le_nxt (l : List UInt8) (k : Nat) : eol l k ≤ nxt l k := by unfold nxt; omega
theorem lt_nxt {l : List UInt8} {k : Nat} (h : k < l.length) : k < nxt l k := by
  have h0 := le_eol l k
  by_cases h1 : eol l k < l.length
  · have := endLen_pos (l := l.drop (eol l k)) (by rw [List.length_drop]; omega)
    unfold nxt; omega
  · have h2 := le_nxt l k; omega

theorem run_end {b : UInt8} (r : List UInt8) (h : isEnd b = true) : run (b :: r) = 0 := by simp [run, h]
theorem run_step {b : UInt8} (r : List UInt8) (h : isEnd b = false) : run (b :: r) = run r + 1 := by simp [run, h]
theorem eol_at (l : List UInt8) : eol l l.length = l.length := by simp [eol, run]
theorem eol_end {l : List UInt8} {k : Nat} (hk : k < l.length) (h : isEnd l[k] = true) : eol l k = k := by
  unfold eol; rw [List.drop_eq_getElem_cons hk, run_end _ h]; omega
theorem eol_step {l : List UInt8} {k : Nat} (hk : k < l.length) (h : isEnd l[k] = false) : eol l (k + 1) = eol l k := by
  unfold eol; rw [List.drop_eq_getElem_cons hk, run_step _ h]; omega

/-- the lines from at on -/
def lines (l : List UInt8) (k : Nat) : List (Nat × Nat × Nat) :=
  if _h : k < l.length then (k, eol l k, nxt l k) :: lines l (nxt l k) else []
termination_by l.length - k
decreasing_by have := lt_nxt _h; omega

theorem lines_end {l : List UInt8} {k : Nat} (h : ¬ k < l.length) : lines l k = [] := by rw [lines, dif_neg h]
theorem lines_step {l : List UInt8} {k : Nat} (h : k < l.length) : lines l k = (k, eol l k, nxt l k) :: lines l (nxt l k) := by rw [lines, dif_pos h]

theorem lines_len (l : List UInt8) (k : Nat) : (lines l k).length ≤ l.length - k := by
  rw [lines]
  split
  · rename_i h
    have h1 := lt_nxt h
    have h2 := nxt_le (l := l) (k := k) (by omega)
    have := lines_len l (nxt l k)
    simp only [List.length_cons]; omega
  · simp
termination_by l.length - k
decreasing_by have := lt_nxt (by assumption); omega

/-- all lie within -/
theorem lines_within (l : List UInt8) (k : Nat) : ∀ x ∈ lines l k, x.1 ≤ x.2.1 ∧ x.2.1 ≤ x.2.2 ∧ x.2.2 ≤ l.length := by
  intro x hx
  rw [lines] at hx
  split at hx
  · rename_i h
    rcases List.mem_cons.1 hx with rfl | hx
    · exact ⟨le_eol _ _, le_nxt _ _, nxt_le (by omega)⟩
    · exact lines_within l (nxt l k) x hx
  · simp at hx
termination_by l.length - k
decreasing_by have := lt_nxt (by assumption); omega

/-- the lines' texts -/
def texts (l : List UInt8) (k : Nat) : List (List UInt8) := (lines l k).map fun x => mid l x.1 x.2.1
theorem texts_end {l : List UInt8} {k : Nat} (h : ¬ k < l.length) : texts l k = [] := by simp [texts, lines_end h]
theorem texts_step {l : List UInt8} {k : Nat} (h : k < l.length) : texts l k = mid l k (eol l k) :: texts l (nxt l k) := by simp [texts, lines_step h]
theorem texts_len (l : List UInt8) (k : Nat) : (texts l k).length ≤ l.length - k := by simpa [texts] using lines_len l k

/-- each text and the end -/
def join (ls : List (List UInt8)) (e : List UInt8) : List UInt8 := ls.flatMap fun s => s ++ e
theorem join_nil (e : List UInt8) : join [] e = [] := rfl
theorem join_take {ls : List (List UInt8)} {k : Nat} (e : List UInt8) (h : k < ls.length) : join (ls.take (k + 1)) e = join (ls.take k) e ++ ls[k] ++ e := by
  rw [List.take_succ_eq_append_getElem h]; simp only [join, List.flatMap_append, List.flatMap_cons, List.flatMap_nil, List.append_nil, List.append_assoc]
theorem join_take_le (ls : List (List UInt8)) (k : Nat) (e : List UInt8) : (join (ls.take k) e).length ≤ (join ls e).length := by
  have h := List.take_append_drop k ls
  have : join ls e = join (ls.take k) e ++ join (ls.drop k) e := by rw [join, join, join, ← List.flatMap_append, h]
  rw [this]; simp
theorem join_append (a b : List (List UInt8)) (e : List UInt8) : join (a ++ b) e = join a e ++ join b e := by simp [join]
theorem four_mul (a b : Nat) : 4 * (a * b) ≤ (a + b) * (a + b) := by
  rcases Nat.le_total a b with h | h
  · obtain ⟨d, rfl⟩ := Nat.le.dest h
    simp only [Nat.mul_add, Nat.add_mul, Nat.mul_comm d a]; omega
  · obtain ⟨d, rfl⟩ := Nat.le.dest h
    simp only [Nat.mul_add, Nat.add_mul, Nat.mul_comm d b]; omega
theorem join_len (ls : List (List UInt8)) (e : List UInt8) : (join ls e).length = (ls.map List.length).sum + ls.length * e.length := by
  induction ls with
  | nil => simp [join]
  | cons s r ih =>
    have : join (s :: r) e = s ++ e ++ join r e := rfl
    rw [this]; simp only [List.length_append, ih, List.map_cons, List.sum_cons, List.length_cons, Nat.add_mul]; omega
theorem join_small {ls : List (List UInt8)} {e : List UInt8} {n : Nat} (h1 : (ls.map List.length).sum ≤ n) (h2 : ls.length + e.length ≤ n) (hn : n ≤ 1048576) : (join ls e).length ≤ 1000000000000 := by
  rw [join_len]
  have h3 := four_mul ls.length e.length
  have h4 : (ls.length + e.length) * (ls.length + e.length) ≤ 1048576 * 1048576 := Nat.mul_le_mul (by omega) (by omega)
  omega
end Go.Proofs.Ytbddmnhmfmkbhaa.Ln
