/- Go's library, where package link calls it, in my words: Cut at one byte, HasPrefix of one byte, Clone. -/
import Derived.Test.YtkfhkfagmokjpaaDoorMn09
import Derived.Test.YtkfhkfagmokjpaaDoorMn03
import Derived.Lib.IndexAny
import Derived.Deep.QuietTactic
import Derived.BigQuiet
namespace Go.Proofs.YtkfhkfagmokjpaaDoor
open Go.RowKit

theorem index_spec (l : List UInt8) (c : UInt8) : (Lib.indexByte l c = -1 ∧ l.contains c = false ∧ l.takeWhile (· != c) = l) ∨
    (∃ i : Nat, Lib.indexByte l c = (i : Int) ∧ i < l.length ∧ l.contains c = true ∧ l.takeWhile (· != c) = l.take i) := by
  by_cases h : Lib.indexByte l c = -1
  · left
    have hn := Lib.indexByte_none h
    have hno : ∀ b ∈ l, b ≠ c := by
      intro b hb he
      obtain ⟨k, hk, rfl⟩ := List.mem_iff_getElem.1 hb
      exact hn k (by rw [List.getElem?_eq_getElem hk, he])
    refine ⟨h, ?_, ?_⟩
    · rw [← Bool.not_eq_true, List.contains_iff_mem]; exact fun hc => hno c hc rfl
    · have h2 := List.takeWhile_append_of_pos (p := (· != c)) (l₁ := l) (l₂ := []) (fun b hb => by simpa using hno b hb)
      simpa using h2
  · right
    have hge := Lib.indexByte_ge l c
    obtain ⟨i, hi⟩ : ∃ i : Nat, Lib.indexByte l c = (i : Int) := ⟨(Lib.indexByte l c).toNat, by omega⟩
    obtain ⟨h1, h2⟩ := Lib.indexByte_some hi
    obtain ⟨hl, he⟩ := List.getElem?_eq_some_iff.1 h1
    refine ⟨i, hi, hl, ?_, ?_⟩
    · rw [List.contains_iff_mem, ← he]; exact List.getElem_mem hl
    · have e : l = l.take i ++ c :: l.drop (i + 1) := by rw [← he, ← List.drop_eq_getElem_cons hl, List.take_append_drop]
      conv => lhs; rw [e]
      rw [List.takeWhile_append_of_pos (fun b hb => by
        obtain ⟨k, hk, rfl⟩ := List.mem_iff_getElem.1 hb
        rw [List.length_take] at hk
        rw [List.getElem_take]
        have := h2 k (by omega)
        rw [List.getElem?_eq_getElem (by omega)] at this
        simpa using this)]
      simp

theorem run_from_at {S : List UInt8} {i : Nat} {v : Int} (h : i ≤ S.length) (hv : v = (i : Int)) (w : World) :
    (Instr.slice 9 (.string (bs S)) (some (.int .i64 v)) none none).run Tryd.prog w = .ok (.string (bs (S.drop i))) w := by subst hv; exact run_from h w

set_option maxHeartbeats 1000000 in
set_option maxRecDepth 100000 in
theorem lk_clone_any (l : List UInt8) (w : World) (hl : l.length ≤ 140737488355328) :
    Calls Tryd.prog 49 #[.string (bs l)] w fun e w' => e = .returned (.string (bs l)) ∧ Below w.heap.size w w' := by
  go_enter Tryd.func49, Tryd.ntmps49
  go_wp2_with (go_at_call 62; refine (Tryd.stringslite_Clone (bs l) _ (by rw [bs_size]; omega)).mono ?_; rintro e w' ⟨rfl, hb⟩)
  go_ret
  exact ⟨rfl, hb⟩
end Go.Proofs.YtkfhkfagmokjpaaDoor
