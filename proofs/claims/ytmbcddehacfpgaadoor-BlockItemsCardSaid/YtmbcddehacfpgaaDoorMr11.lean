/- The document's own answer of chapter 6: headings, breaks, quotes, items. The document's own answer of chapter 6: quotes and headings. The document's own answer of chapter 6: items. Law 6: the values that the functions of a line give, written out. -/
import Derived.Test.YtmbcddehacfpgaaDoorMr02
import Derived.Test.YtmbcddehacfpgaaDoorMr10
import Derived.Test.YtmbcddehacfpgaaDoorMr09
import Derived.Deep.QuietTactic
import Derived.BigQuiet
namespace Go.Proofs.YtmbcddehacfpgaaDoor
open Go.RowKit

theorem drop_cons {l r : List UInt8} {c : UInt8} {K : Nat} (h : l.drop K = c :: r) : ∃ hk : K < l.length, l[K] = c := by
  have hk : K < l.length := by
    rcases Nat.lt_or_ge K l.length with h' | h'
    · exact h'
    · rw [List.drop_eq_nil_of_le h'] at h; cases h
  refine ⟨hk, ?_⟩
  rw [List.drop_eq_getElem_cons hk] at h
  injection h
theorem place_byte {l r : List UInt8} {c : UInt8} {K : Nat} (h : l.drop K = c :: r) (w : World) :
    (Instr.index 9 (.string (bs l)) (.int .i64 (K : Int))).run Tryd.prog w = .ok (.int .u8 (c.toNat : Int)) w := by
  obtain ⟨hk, rfl⟩ := drop_cons h
  exact run_byte hk w
theorem tail_from {l : List UInt8} {K n : Nat} (h : K + n ≤ l.length) (w : World) :
    (Instr.slice 9 (.string (bs l)) (some (.int .i64 ((K : Int) + (n : Int)))) none none).run Tryd.prog w = .ok (.string (bs ((l.drop K).drop n))) w := by
  have := run_from (S := l) (i := K + n) h w
  rw [Int.natCast_add] at this
  rw [this, List.drop_drop]

theorem ne_of_eq {a b : Int} (h : (a == b) = true) : (a != b) = false := by rw [bne, h]; rfl
theorem ne_of_ne {a b : Int} (h : (a == b) = false) : (a != b) = true := by rw [bne, h]; rfl
theorem ruler_tests (c : UInt8) : (((c.toNat : Int) == 42) = true ∧ Lf.ruler c = true) ∨ (((c.toNat : Int) == 42) = false ∧ ((c.toNat : Int) == 45) = true ∧ Lf.ruler c = true) ∨
    (((c.toNat : Int) == 42) = false ∧ ((c.toNat : Int) == 45) = false ∧ ((c.toNat : Int) == 95) = true ∧ Lf.ruler c = true) ∨
    (((c.toNat : Int) == 42) = false ∧ ((c.toNat : Int) == 45) = false ∧ ((c.toNat : Int) == 95) = false ∧ Lf.ruler c = false) := by
  by_cases h : c = 42
  · exact .inl ⟨byte_eq (n := 42) (by omega) h, by subst h; rfl⟩
  · have h1 := byte_ne (n := 42) (by omega) h
    by_cases h' : c = 45
    · exact .inr (.inl ⟨h1, byte_eq (n := 45) (by omega) h', by subst h'; rfl⟩)
    · have h2 := byte_ne (n := 45) (by omega) h'
      by_cases h'' : c = 95
      · exact .inr (.inr (.inl ⟨h1, h2, byte_eq (n := 95) (by omega) h'', by subst h''; rfl⟩))
      · exact .inr (.inr (.inr ⟨h1, h2, byte_ne (n := 95) (by omega) h'', by simp [Lf.ruler, h, h', h'']⟩))
theorem bullet_tests (c : UInt8) : (((c.toNat : Int) == 42) = true ∧ Lf.bullet c = true) ∨ (((c.toNat : Int) == 42) = false ∧ ((c.toNat : Int) == 45) = true ∧ Lf.bullet c = true) ∨
    (((c.toNat : Int) == 42) = false ∧ ((c.toNat : Int) == 45) = false ∧ ((c.toNat : Int) == 43) = true ∧ Lf.bullet c = true) ∨
    (((c.toNat : Int) == 42) = false ∧ ((c.toNat : Int) == 45) = false ∧ ((c.toNat : Int) == 43) = false ∧ Lf.bullet c = false) := by
  by_cases h : c = 42
  · exact .inl ⟨byte_eq (n := 42) (by omega) h, by subst h; rfl⟩
  · have h1 := byte_ne (n := 42) (by omega) h
    by_cases h' : c = 45
    · exact .inr (.inl ⟨h1, byte_eq (n := 45) (by omega) h', by subst h'; rfl⟩)
    · have h2 := byte_ne (n := 45) (by omega) h'
      by_cases h'' : c = 43
      · exact .inr (.inr (.inl ⟨h1, h2, byte_eq (n := 43) (by omega) h'', by subst h''; rfl⟩))
      · exact .inr (.inr (.inr ⟨h1, h2, byte_ne (n := 43) (by omega) h'', by simp [Lf.bullet, h, h', h'']⟩))

/-- from a place on -/
theorem along_at {l : List UInt8} {c : UInt8} {k : Nat} (hk : k < l.length) : (l.drop k).all (Lf.along c) = (Lf.along c l[k] && (l.drop (k + 1)).all (Lf.along c)) := by
  rw [List.drop_eq_getElem_cons hk, List.all_cons]
theorem count_at {l : List UInt8} {c : UInt8} {k : Nat} (hk : k < l.length) : (l.drop k).count c = (l.drop (k + 1)).count c + (if l[k] = c then 1 else 0) := by
  rw [List.drop_eq_getElem_cons hk, List.count_cons]
  simp

end Go.Proofs.YtmbcddehacfpgaaDoor

namespace Go.Proofs.YtmbcddehacfpgaaDoor
open Go.RowKit

def quotev : Option (List UInt8) → Value
  | none => .tuple #[.string ⟨#[]⟩, .bool false]
  | some r => .tuple #[.string (bs r), .bool true]
def headv : Option (Nat × List UInt8) → Value
  | none => .tuple #[.int .i64 0, .string ⟨#[]⟩, .bool false]
  | some (n, t) => .tuple #[.int .i64 (n : Int), .string (bs t), .bool true]

theorem quote_nil {l : List UInt8} (h : Fn.rs l = []) : Lf.quote l = none := by unfold Lf.quote; rw [h]
theorem quote_no {l r : List UInt8} {c : UInt8} (h : Fn.rs l = c :: r) (h1 : ¬ (Fn.cl l ≤ 3 ∧ c = 62)) : Lf.quote l = none := by unfold Lf.quote; rw [h]; simp only; rw [if_neg h1]
theorem quote_yes {l r : List UInt8} {c : UInt8} (h : Fn.rs l = c :: r) (h1 : Fn.cl l ≤ 3 ∧ c = 62) : Lf.quote l = some (Cl.strip 1 r) := by unfold Lf.quote; rw [h]; simp only; rw [if_pos h1]
theorem end_place {l : List UInt8} {K : Nat} (h : l.drop K = []) (hK : K ≤ l.length) : K = l.length := by
  have := congrArg List.length h
  rw [List.length_drop] at this
  simp at this; omega

theorem head_no {l : List UInt8} (h : ¬ (Fn.cl l ≤ 3 ∧ 1 ≤ Fn.run 35 (Fn.rs l) ∧ Fn.run 35 (Fn.rs l) ≤ 6 ∧ Lf.stop ((Fn.rs l).drop (Fn.run 35 (Fn.rs l))) = true)) : Lf.heading l = none := if_neg h
theorem head_yes {l : List UInt8} (h : Fn.cl l ≤ 3 ∧ 1 ≤ Fn.run 35 (Fn.rs l) ∧ Fn.run 35 (Fn.rs l) ≤ 6 ∧ Lf.stop ((Fn.rs l).drop (Fn.run 35 (Fn.rs l))) = true) :
    Lf.heading l = some (Fn.run 35 (Fn.rs l), Lf.title (Fn.trim ((Fn.rs l).drop (Fn.run 35 (Fn.rs l))))) := if_pos h
theorem place_sum {l q : List UInt8} {b : UInt8} {K n : Nat} (h : (l.drop K).drop n = b :: q) (w : World) :
    (Instr.index 9 (.string (bs l)) (.int .i64 ((K : Int) + (n : Int)))).run Tryd.prog w = .ok (.int .u8 (b.toNat : Int)) w := by
  rw [List.drop_drop] at h
  have := place_byte h w
  rwa [Int.natCast_add] at this

/-- what is left of a text when its last signs go -/
theorem unhash_end {t : List UInt8} {m : Nat} (h : Hid (Lf.unhash (t.take m) = Lf.unhash t)) (hm : m ≤ t.length) (hs : m = 0 ∨ ∃ j, ∃ hj : j < t.length, m = j + 1 ∧ t[j] ≠ 35) : Lf.unhash t = t.take m := by
  rcases hs with rfl | ⟨j, hj, rfl, hne⟩
  · rw [← h.out]; rfl
  · rw [← h.out, List.take_succ_eq_append_getElem hj, Lf.unhash_snoc_word _ hne]
theorem unhash_next {t : List UInt8} {j : Nat} (hj : j < t.length) (h : Hid (Lf.unhash (t.take (j + 1)) = Lf.unhash t)) (hs : t[j] = 35) : Hid (Lf.unhash (t.take j) = Lf.unhash t) := by
  refine Lib.hid ?_
  rw [← h.out, List.take_succ_eq_append_getElem hj, hs, Lf.unhash_snoc_sign]
theorem closed_zero {t : List UInt8} : Lf.closed (t.take 0) = true := rfl
theorem closed_last {t : List UInt8} {j : Nat} (hj : j < t.length) : Lf.closed (t.take (j + 1)) = Cl.isGap t[j] := by
  unfold Lf.closed
  rw [List.take_succ_eq_append_getElem hj, List.getLast?_concat]

end Go.Proofs.YtmbcddehacfpgaaDoor

namespace Go.Proofs.YtmbcddehacfpgaaDoor
open Go.RowKit

def itemv : Option (UInt8 × Nat × List UInt8) → Value
  | none => .tuple #[.int .u8 0, .int .i64 0, .string ⟨#[]⟩, .bool false]
  | some (c, k, t) => .tuple #[.int .u8 (c.toNat : Int), .int .i64 (k : Int), .string (bs t), .bool true]

theorem item_nil {l : List UInt8} (h : Fn.rs l = []) : Lf.item l = none := by unfold Lf.item; rw [h]
theorem item_no {l r : List UInt8} {c : UInt8} (h : Fn.rs l = c :: r) (h1 : ¬ (Fn.cl l ≤ 3 ∧ Lf.bullet c = true ∧ Lf.brk l = false ∧ Lf.stop r = true)) : Lf.item l = none := by unfold Lf.item; rw [h]; simp only; rw [if_neg h1]
theorem item_emp {l r : List UInt8} {c : UInt8} (h : Fn.rs l = c :: r) (h1 : Fn.cl l ≤ 3 ∧ Lf.bullet c = true ∧ Lf.brk l = false ∧ Lf.stop r = true) (h2 : Fn.emp r = true) : Lf.item l = some (c, Fn.cl l + 2, []) := by
  unfold Lf.item; rw [h]; simp only; rw [if_pos h1, if_pos h2]
theorem item_yes {l r : List UInt8} {c : UInt8} (h : Fn.rs l = c :: r) (h1 : Fn.cl l ≤ 3 ∧ Lf.bullet c = true ∧ Lf.brk l = false ∧ Lf.stop r = true) (h2 : Fn.emp r = false) :
    Lf.item l = some (c, Fn.cl l + 1 + Lf.inner (Fn.cl r), Cl.strip (Lf.inner (Fn.cl r)) r) := by
  unfold Lf.item; rw [h]; simp only; rw [if_pos h1, if_neg (by rw [h2]; simp)]

/-- the three tests of a sign that is one -/
theorem bullet_ways {c : UInt8} (h : Lf.bullet c = true) : (((c.toNat : Int) != 42) = false) ∨ (((c.toNat : Int) != 42) = true ∧ ((c.toNat : Int) != 45) = false) ∨
    (((c.toNat : Int) != 42) = true ∧ ((c.toNat : Int) != 45) = true ∧ ((c.toNat : Int) != 43) = false) := by
  rcases bullet_tests c with ⟨t1, _⟩ | ⟨t1, t2, _⟩ | ⟨t1, t2, t3, _⟩ | ⟨_, _, _, h'⟩
  · exact .inl (ne_of_eq t1)
  · exact .inr (.inl ⟨ne_of_ne t1, ne_of_eq t2⟩)
  · exact .inr (.inr ⟨ne_of_ne t1, ne_of_ne t2, ne_of_eq t3⟩)
  · rw [h] at h'; cases h'

section
end

end Go.Proofs.YtmbcddehacfpgaaDoor

namespace Go.Proofs.YtmbcddehacfpgaaDoor
open Go.RowKit

theorem headv_form (o : Option (Nat × List UInt8)) : ∃ (n : Nat) (t : List UInt8) (ok : Bool), headv o = .tuple #[.int .i64 (n : Int), .string (bs t), .bool ok] := by
  rcases o with _ | ⟨n, t⟩
  · exact ⟨0, [], false, rfl⟩
  · exact ⟨n, t, true, rfl⟩
theorem quotev_form (o : Option (List UInt8)) : ∃ (t : List UInt8) (ok : Bool), quotev o = .tuple #[.string (bs t), .bool ok] := by
  rcases o with _ | t
  · exact ⟨[], false, rfl⟩
  · exact ⟨t, true, rfl⟩
theorem itemv_form (o : Option (UInt8 × Nat × List UInt8)) : ∃ (c : UInt8) (k : Nat) (t : List UInt8) (ok : Bool), itemv o = .tuple #[.int .u8 (c.toNat : Int), .int .i64 (k : Int), .string (bs t), .bool ok] := by
  rcases o with _ | ⟨c, k, t⟩
  · exact ⟨0, 0, [], false, rfl⟩
  · exact ⟨c, k, t, true, rfl⟩

end Go.Proofs.YtmbcddehacfpgaaDoor
