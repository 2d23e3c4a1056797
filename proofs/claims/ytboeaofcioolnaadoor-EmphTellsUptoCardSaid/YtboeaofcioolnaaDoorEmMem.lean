/- Runs that stress and their pairs, as cells; the document's own 'held' and 'fits'. -/
import Derived.Test.YtboeaofcioolnaaDoorEmMath
import Derived.Test.YtboeaofcioolnaaDoorHeapMap
import Derived.Test.YtboeaofcioolnaaDoorCanon
import Derived.Laws.OwnMore
import Derived.Deep.QuietTactic
import Derived.BigQuiet
namespace Go.Proofs.YtboeaofcioolnaaDoor
open Go.RowKit

/-- a run's cells, a row of them; pairs; what is left -/
def acell (r : Em.R) : List Value := [.int .u8 (r.ch.toNat : Int), .int .i64 r.n, .bool r.o, .bool r.c]
def acells (l : List Em.R) : List Value := l.flatMap acell
def pcell (x : Nat × Nat × Nat) : List Value := [.int .i64 (x.1 : Int), .int .i64 (x.2.1 : Int), .int .i64 (x.2.2 : Int)]
def pcells (l : List (Nat × Nat × Nat)) : List Value := l.flatMap pcell
def lcells (L : List Nat) : List Value := L.map fun x : Nat => .int .i64 (x : Int)
/-- elements of so many cells -/
theorem flat_at {α : Type} {f : α → List Value} {m : Nat} (hf : ∀ x, (f x).length = m) : ∀ (l : List α) (k i : Nat) (hk : k < l.length), i < m → (l.flatMap f)[k * m + i]? = (f l[k])[i]?
  | [], k, _, hk, _ => by simp at hk
  | x :: l, 0, i, _, hi => by
    rw [List.flatMap_cons, Nat.zero_mul, Nat.zero_add, List.getElem?_append_left (by rw [hf]; exact hi)]; rfl
  | x :: l, k + 1, i, hk, hi => by
    have := flat_at hf l k i (by simpa using hk) hi
    rw [List.flatMap_cons, List.getElem?_append_right (by rw [hf, Nat.succ_mul]; omega), hf, show (k + 1) * m + i - m = k * m + i by rw [Nat.succ_mul]; omega, this]; rfl
theorem flat_len {α : Type} {f : α → List Value} {m : Nat} (hf : ∀ x, (f x).length = m) (l : List α) : (l.flatMap f).length = l.length * m := by
  induction l with
  | nil => simp
  | cons x l ih => rw [List.flatMap_cons, List.length_append, hf, ih, List.length_cons, Nat.succ_mul]; omega
theorem acells_len (l : List Em.R) : (acells l).length = l.length * 4 := flat_len (f := acell) (m := 4) (fun _ => rfl) l
theorem pcells_len (l : List (Nat × Nat × Nat)) : (pcells l).length = l.length * 3 := flat_len (f := pcell) (m := 3) (fun _ => rfl) l
theorem pcells_one (l : List (Nat × Nat × Nat)) : ∀ u ∈ pcells l, u.oneCell' = true := by
  intro u hu
  obtain ⟨x, _, hx⟩ := List.mem_flatMap.1 hu
  simp only [pcell, List.mem_cons, List.not_mem_nil, or_false] at hx
  rcases hx with rfl | rfl | rfl <;> rfl

/-- a run in a row -/
theorem run_cell {w : World} {B : Nat} {A : Option Addr} {l : List Em.R} (h : Row w B 4 A l.length (acells l)) (hn : 0 < l.length) :
    ∃ b o, A = some ⟨b, o, none⟩ ∧ b < B ∧ ∀ k (hk : k < l.length), w.cell? ⟨b, o + k * 4, none⟩ = some (.int .u8 (l[k].ch.toNat : Int)) ∧ w.cell? ⟨b, o + k * 4 + 1, none⟩ = some (.int .i64 l[k].n) ∧
      w.cell? ⟨b, o + k * 4 + 2, none⟩ = some (.bool l[k].o) ∧ w.cell? ⟨b, o + k * 4 + 3, none⟩ = some (.bool l[k].c) := by
  obtain ⟨b, o, e, hb, hc⟩ := h.2 hn
  refine ⟨b, o, e, hb, fun k hk => ?_⟩
  have hat := fun i (hi : i < 4) => flat_at (f := acell) (m := 4) (fun _ => rfl) l k i hk hi
  exact ⟨hc _ _ ((hat 0 (by omega)).trans rfl), hc _ _ ((hat 1 (by omega)).trans rfl), hc _ _ ((hat 2 (by omega)).trans rfl), hc _ _ ((hat 3 (by omega)).trans rfl)⟩

set_option maxHeartbeats 1000000 in
theorem rheld_any (n : Int) (w : World) :
    Calls Tryd.prog 27 #[.int .i64 n] w fun e w' => e = .returned (.int .i64 (Em.held n : Nat)) ∧ w = w' := by
  obtain ⟨m, hm⟩ : ∃ m, m = Em.held n := ⟨_, rfl⟩
  rw [← hm]
  obtain ⟨k, hk⟩ : ∃ k : Int, k = (if (100 : Int) < n then 100 else n) := ⟨_, rfl⟩
  have hk1 : (if (100 : Int) < n then (100 : Int) else n) = k := hk.symm
  have hk2 : min n 100 = k := by rw [hk]; split <;> omega
  have hk3 : (if k < 0 then (0 : Int) else k) = (m : Int) := by rw [hm]; unfold Em.held; rw [hk2]; split <;> omega
  have hk4 : max k 0 = (m : Int) := by rw [hm]; unfold Em.held; rw [hk2]; omega
  clear hm hk
  go_enter Tryd.func27, Tryd.ntmps27
  go_wp2
  go_ret
  exact ⟨rfl, rfl⟩

/-- a run's value -/
def aval (r : Em.R) : Value := .agg #[.int .u8 (r.ch.toNat : Int), .int .i64 r.n, .bool r.o, .bool r.c]
set_option maxHeartbeats 4000000 in
set_option maxRecDepth 100000 in
theorem rfits_any (x y : Em.R) (w : World) :
    Calls Tryd.prog 28 #[aval x, aval y] w fun e w' => e = .returned (.bool (Em.fits x y)) ∧ Below w.heap.size w w' := by
  obtain ⟨F, hF⟩ : ∃ F, F = Em.fits x y := ⟨_, rfl⟩
  rw [← hF]
  obtain ⟨xc, xn, xo, xx⟩ := x
  obtain ⟨yc, yn, yo, yx⟩ := y
  have q1 := fun w => rheld_any xn w
  have q2 := fun w => rheld_any yn w
  have b1 := Em.held_le xn
  have b2 := Em.held_le yn
  unfold Em.fits at hF
  simp only at hF
  obtain ⟨a, ha⟩ : ∃ a, a = Em.held xn := ⟨_, rfl⟩
  obtain ⟨b, hb⟩ : ∃ b, b = Em.held yn := ⟨_, rfl⟩
  rw [← ha] at q1 b1 hF
  rw [← hb] at q2 b2 hF
  clear ha hb
  have hb1 := Lib.hid (ext_trans (ext_alloc w (.cells #[.int .u8 (xc.toNat : Int), .int .i64 xn, .bool xo, .bool xx] 47)) (ext_alloc _ (.cells #[.int .u8 (yc.toNat : Int), .int .i64 yn, .bool yo, .bool yx] 47)))
  unfold aval
  simp only
  go_enter Tryd.func28, Tryd.ntmps28
  go_wp2_with fail
  go_quiet (first | exact Calls.quiet_of_same ((q1 _).mono fun _ _ h => ⟨h.1, h.2.symm⟩) | exact Calls.quiet_of_same ((q2 _).mono fun _ _ h => ⟨h.1, h.2.symm⟩))
  have hb2 := Lib.hid (below_drewN hb1.out nq)
  clear hb1
  by_cases hp : a % 3 = 0 ∧ b % 3 = 0
  · obtain ⟨p1, p2⟩ := hp
    have t1 : ((a : Int) % 3 == 0) = true := by simp; omega
    have t2 : ((b : Int) % 3 == 0) = true := by simp; omega
    have hF2 : F = true := by rw [hF, p1, p2]; rfl
    subst hF2
    clear hF
    go_wp2_with fail
    go_ret
    exact ⟨rfl, hb2.out⟩
  · obtain ⟨S, hS⟩ : ∃ S, ((a + b) % 3 == 0) = S := ⟨_, rfl⟩
    have hF2 : F = !((xo && xx || yo && yx) && S) := by
      rw [hF, hS]
      have : (a % 3 == 0 && b % 3 == 0) = false := by
        cases h : (a % 3 == 0 && b % 3 == 0) with
        | false => rfl
        | true => simp only [Bool.and_eq_true, beq_iff_eq] at h; exact absurd h hp
      rw [this, Bool.false_or]
    have hS2 : (((a : Int) + (b : Int)) % 3 == 0) = S := by
      rw [← hS, Bool.eq_iff_iff]; simp only [beq_iff_eq]; omega
    have hp' : ((a : Int) % 3 == 0) = false ∨ (((a : Int) % 3 == 0) = true ∧ ((b : Int) % 3 == 0) = false) := by
      by_cases h : a % 3 = 0
      · exact .inr ⟨by simp; omega, by simp; omega⟩
      · exact .inl (by simp; omega)
    clear hF hS hp
    rcases hp' with h1 | ⟨h1, h2⟩
    all_goals
      subst hF2
      cases xo <;> cases xx <;> cases yo <;> cases yx <;> cases S
      all_goals
        go_wp2_with fail
        go_ret
        exact ⟨rfl, hb2.out⟩
end Go.Proofs.YtboeaofcioolnaaDoor
