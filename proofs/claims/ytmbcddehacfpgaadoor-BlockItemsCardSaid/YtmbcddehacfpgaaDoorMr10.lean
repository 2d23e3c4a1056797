/- Package fence and the document's own answer: one contract for each function that counts signs or cuts a text. -/
import Derived.Test.YtmbcddehacfpgaaDoorMr02
import Derived.Deep.CutBlock
import Derived.Deep.QuietTactic
import Derived.BigQuiet
namespace Go.Proofs.YtmbcddehacfpgaaDoor
open Go.RowKit

theorem runs_end {c : UInt8} {l : List UInt8} {k : Nat} (h : Hid (k + Fn.run c (l.drop k) = Fn.run c l)) (h0 : Fn.run c (l.drop k) = 0) : k = Fn.run c l := by
  have := h.out; omega

set_option maxHeartbeats 1000000 in
theorem run_any (l : List UInt8) (c : UInt8) (w : World) (hl : l.length ≤ 140737488355328) :
    Calls Tryd.prog 50 #[.string (bs l), .int .u8 (c.toNat : Int)] w fun e w' => e = .returned (.int .i64 (Fn.run c l : Nat)) ∧ w = w' := by
  have hsz := bs_size l
  go_enter Tryd.func50, Tryd.ntmps50
  go_wp2_with fail
  go_loop [5] (fun u => ∃ k : Nat, k ≤ l.length ∧ u = .int .i64 k ∧ Hid (k + Fn.run c (l.drop k) = Fn.run c l)) (fun u => l.length - (intOf u).toNat)
  case atStart => exact ⟨0, by omega, rfl, Lib.hid (by simp)⟩
  case round =>
    obtain ⟨k, hk, rfl, hf⟩ := hrel
    rcases Nat.lt_or_eq_of_le hk with hlt | rfl
    · have hx := run_byte hlt w
      by_cases hc : l[k] = c
      · have ht := byte_same hc
        have hf2 : Hid (k + 1 + Fn.run c (l.drop (k + 1)) = Fn.run c l) := Lib.hid (by have := hf.out; rw [Fn.run_at hlt hc] at this; omega)
        clear hc
        go_wp2
        go_round
        case rel => exact ⟨k + 1, by omega, by go_num, hf2⟩
        case measure => simp [intOf]; omega
      · have ht := byte_diff hc
        have hfin := Lib.hid (runs_end hf (Fn.run_no hlt hc))
        clear hc
        go_wp2
        go_returns
        exact ⟨by rw [← hfin.out]; rfl, rfl⟩
    · have hfin := Lib.hid (runs_end hf (Fn.run_end (by omega)))
      go_wp2
      go_returns
      exact ⟨by rw [← hfin.out]; rfl, rfl⟩

theorem runs_end2 {c : UInt8} {l : List UInt8} {a k : Nat} (h : Hid (k + Fn.run c (l.drop (a + k)) = Fn.run c (l.drop a))) (h0 : Fn.run c (l.drop (a + k)) = 0) : k = Fn.run c (l.drop a) := by
  have := h.out; omega

theorem lgs_next {m k : Nat} {l : List UInt8} (h : Hid (max m (Fn.lg (l.drop k)) = Fn.lg l)) : max (max m (Fn.run 96 (l.drop k))) (Fn.lg (l.drop (k + Fn.run 96 (l.drop k) + 1))) = Fn.lg l := by
  have h1 := h.out
  have h2 := Fn.lg_skip (l.drop k)
  rw [List.drop_drop] at h2
  rw [← h1, h2, show k + (Fn.run 96 (l.drop k) + 1) = k + Fn.run 96 (l.drop k) + 1 from rfl]
  omega
theorem lgs_done {m k : Nat} {l : List UInt8} (h : Hid (max m (Fn.lg (l.drop k)) = Fn.lg l)) (hk : ¬ k < l.length) : m = Fn.lg l := by
  have h1 := h.out
  rw [List.drop_eq_nil_of_le (by omega)] at h1
  simpa [Fn.lg] using h1
theorem max_cast (m n : Nat) : Value.int .i64 (if m < n then (n : Int) else (m : Int)) = .int .i64 ((max m n : Nat) : Int) := by
  congr 1; split <;> omega

set_option maxHeartbeats 1000000 in
theorem inner_any (l : List UInt8) (w : World) (hl : l.length ≤ 140737488355328) :
    Calls Tryd.prog 49 #[.string (bs l)] w fun e w' => e = .returned (.tuple #[.int .i64 (Fn.cl l : Nat), .string (bs (Fn.rs l)), .bool (decide ((Fn.cl l : Int) ≤ 3))]) ∧ Below w.heap.size w w' := by
  have hle := Cl.lead_le Cl.inf l 0
  have hi := fun w => indent_any l w hl
  have hcl : Fn.cl l = (Cl.lead Cl.inf l 0).1 := rfl
  have hrs : Fn.rs l = l.drop (Cl.lead Cl.inf l 0).2 := rfl
  rw [hcl, hrs]
  clear hcl hrs
  obtain ⟨C, K, hCK⟩ : ∃ C K, Cl.lead Cl.inf l 0 = (C, K) := ⟨_, _, rfl⟩
  rw [hCK] at hle hi
  rw [hCK]
  simp only at hle hi ⊢
  clear hCK
  have hsl := run_from (S := l) (i := K) (by omega)
  go_enter Tryd.func49, Tryd.ntmps49
  go_wp2_with (go_at_call 72; refine (hi _).mono ?_; rintro e w' ⟨rfl, rfl⟩)
  go_quiet (fail)
  go_wp2
  go_ret3
  exact ⟨rfl, below_drewN (Below.refl _ _) _⟩

theorem front_end {t l : List UInt8} (h : Hid (Fn.front t = Fn.front l)) (ht : t = [] ∨ ∃ b r, t = b :: r ∧ Cl.isGap b = false) : Fn.front l = t := by
  rw [← h.out]
  rcases ht with rfl | ⟨b, r, rfl, hb⟩
  · rfl
  · exact Fn.front_word r hb

theorem back_end {t l : List UInt8} (h : Hid (Fn.back t = Fn.back l)) (ht : t = [] ∨ ∃ b r, t = r ++ [b] ∧ Cl.isGap b = false) : Fn.back l = t := by
  rw [← h.out]
  rcases ht with rfl | ⟨b, r, rfl, hb⟩
  · rfl
  · exact Fn.back_snoc_word r hb

def szv : Value → Nat
  | .string s => s.size
  | _ => 0

theorem has_next {l : List UInt8} {c : UInt8} {k : Nat} (hk : k < l.length) (h : Hid (c ∈ l.drop k ↔ c ∈ l)) : (l[k] = c → c ∈ l) ∧ (l[k] ≠ c → Hid (c ∈ l.drop (k + 1) ↔ c ∈ l)) := by
  have h1 := h.out
  rw [List.drop_eq_getElem_cons hk, List.mem_cons] at h1
  refine ⟨fun e => h1.1 (.inl e.symm), fun e => Lib.hid ?_⟩
  rw [← h1]
  exact ⟨.inr, fun h => h.resolve_left (fun e' => e e'.symm)⟩

theorem text_cell {l : List (List UInt8)} {w : World} {B : Nat} {A : Option Addr} (h : Row w B 1 A l.length (scells l)) (hn : 0 < l.length) :
    ∃ b o, A = some ⟨b, o, none⟩ ∧ b < B ∧ ∀ k, (hk : k < l.length) → w.cell? ⟨b, o + k, none⟩ = some (.string (bs l[k])) := by
  obtain ⟨b, o, e, hb, hc⟩ := h.at1 hn
  exact ⟨b, o, e, hb, fun k hk => by rw [hc k hk]; simp [scells]⟩

theorem long_next {m k : Nat} {ls : List (List UInt8)} (hk : k < ls.length) (h : Hid (max m (Fn.lgs (ls.drop k)) = Fn.lgs ls)) : max (max m (Fn.lg ls[k])) (Fn.lgs (ls.drop (k + 1))) = Fn.lgs ls := by
  have h1 := h.out
  rw [Fn.lgs_at hk] at h1
  omega
theorem long_done {m k : Nat} {ls : List (List UInt8)} (h : Hid (max m (Fn.lgs (ls.drop k)) = Fn.lgs ls)) (hk : ¬ k < ls.length) : m = Fn.lgs ls := by
  have h1 := h.out
  rw [Fn.lgs_end hk] at h1
  omega

end Go.Proofs.YtmbcddehacfpgaaDoor
