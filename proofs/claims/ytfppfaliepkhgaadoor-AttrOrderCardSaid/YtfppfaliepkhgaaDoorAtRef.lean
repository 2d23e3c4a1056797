/- The document's own answer of chapter 5: words, texts in quotes. -/
import Derived.Test.YtfppfaliepkhgaaDoorByt
import Derived.Test.YtfppfaliepkhgaaDoorAtMath
import Derived.Deep.CutBlock
import Derived.Deep.QuietTactic
import Derived.BigQuiet
namespace Go.Proofs.YtfppfaliepkhgaaDoor
open Go.RowKit

set_option maxHeartbeats 1000000 in
set_option maxRecDepth 100000 in
theorem gap5_any (b : UInt8) (w : World) :
    Calls Tryd.prog 35 #[.int .u8 (b.toNat : Int)] w fun e w' => e = .returned (.bool (Cl.isGap b)) ∧ w = w' := by
  rcases gap_tests b with ⟨h1, h3⟩ | ⟨h1, h2, h3⟩ | ⟨h1, h2, h3⟩
  all_goals
    go_enter Tryd.func35, Tryd.ntmps35
    go_wp2
    go_ret
    exact ⟨by rw [h3]; rfl, rfl⟩

theorem tw_fin {p : UInt8 → Bool} {l : List UInt8} {a k : Nat} (h : Hid ((k - a) + (At.tw p (l.drop k)).length = (At.tw p (l.drop a)).length)) (h0 : (At.tw p (l.drop k)).length = 0) : mid l a k = At.tw p (l.drop a) := by
  have := h.out
  unfold mid
  rw [show k - a = (At.tw p (l.drop a)).length from by omega, At.tw_take]

set_option maxHeartbeats 1000000 in
set_option maxRecDepth 100000 in
theorem word_any (l : List UInt8) (a : Nat) (w : World) (hl : l.length ≤ 140737488355328) (ha : a ≤ l.length) :
    Calls Tryd.prog 36 #[.string (bs l), .int .i64 (a : Int)] w fun e w' => e = .returned (.string (bs (At.tw At.word (l.drop a)))) ∧ w = w' := by
  have hsz := bs_size l
  go_enter Tryd.func36, Tryd.ntmps36
  go_wp2_with fail
  go_loop [5] (fun u => ∃ k : Nat, a ≤ k ∧ k ≤ l.length ∧ u = .int .i64 (k : Int) ∧ Hid ((k - a) + (At.tw At.word (l.drop k)).length = (At.tw At.word (l.drop a)).length)) (fun u => l.length - (intOf u).toNat)
  case atStart => exact ⟨a, by omega, ha, rfl, Lib.hid (by omega)⟩
  case round =>
    obtain ⟨k, hak, hk, rfl, hf⟩ := hrel
    have hfin := @tw_fin At.word l a k hf
    have hsl := run_mid (S := l) (i := a) (j := k) hak hk
    obtain ⟨T, hT⟩ : ∃ T, mid l a k = T := ⟨_, rfl⟩
    rw [hT] at hfin hsl
    clear hT
    rcases Nat.lt_or_eq_of_le hk with hlt | rfl
    · have hx := run_byte hlt w
      have hg := gap5_any l[k]
      cases h3 : Cl.isGap l[k] with
      | false =>
        have hf2 : Hid ((k + 1 - a) + (At.tw At.word (l.drop (k + 1))).length = (At.tw At.word (l.drop a)).length) := Lib.hid (by have := hf.out; rw [At.tw_at hlt (by unfold At.word; rw [h3]; rfl)] at this; omega)
        rw [h3] at hg
        clear h3 hfin hsl
        go_wp2_with (go_at_call 35; refine (hg _).mono ?_; rintro e w' ⟨rfl, rfl⟩)
        go_round
        case rel => exact ⟨k + 1, by omega, by omega, by go_num, hf2⟩
        case measure => simp [intOf]; omega
      | true =>
        replace hfin := Lib.hid (hfin (At.tw_not hlt (by unfold At.word; rw [h3]; rfl)))
        rw [h3] at hg
        clear h3
        go_wp2_with (go_at_call 35; refine (hg _).mono ?_; rintro e w' ⟨rfl, rfl⟩)
        go_returns
        exact ⟨by rw [← hfin.out]; rfl, rfl⟩
    · replace hfin := Lib.hid (hfin (At.tw_end (by omega)))
      go_wp2
      go_returns
      exact ⟨by rw [← hfin.out]; rfl, rfl⟩

theorem has5_next {l : List UInt8} {c : UInt8} {k : Nat} (hk : k < l.length) (h : Hid (c ∈ l.drop k ↔ c ∈ l)) : (l[k] = c → c ∈ l) ∧ (l[k] ≠ c → Hid (c ∈ l.drop (k + 1) ↔ c ∈ l)) := by
  have h1 := h.out
  rw [List.drop_eq_getElem_cons hk, List.mem_cons] at h1
  refine ⟨fun e => h1.1 (.inl e.symm), fun e => Lib.hid ?_⟩
  rw [← h1]
  exact ⟨.inr, fun h => h.resolve_left (fun e' => e e'.symm)⟩

set_option maxHeartbeats 1000000 in
set_option maxRecDepth 100000 in
theorem has5_any (l : List UInt8) (c : UInt8) (w : World) (hl : l.length ≤ 140737488355328) :
    Calls Tryd.prog 31 #[.string (bs l), .int .u8 (c.toNat : Int)] w fun e w' => e = .returned (.bool (decide (c ∈ l))) ∧ w = w' := by
  have hsz := bs_size l
  go_enter Tryd.func31, Tryd.ntmps31
  go_wp2_with fail
  go_loop [5] (fun u => ∃ k : Nat, k ≤ l.length ∧ u = .int .i64 k ∧ Hid (c ∈ l.drop k ↔ c ∈ l)) (fun u => l.length - (intOf u).toNat)
  case atStart => exact ⟨0, by omega, rfl, Lib.hid (by simp)⟩
  case round =>
    obtain ⟨k, hk, rfl, hf⟩ := hrel
    rcases Nat.lt_or_eq_of_le hk with hlt | rfl
    · have hx := run_byte hlt w
      have hn := has5_next hlt hf
      by_cases hc : l[k] = c
      · have ht := byte_same hc
        replace hn := Lib.hid (hn.1 hc)
        clear hc
        go_wp2
        go_returns
        exact ⟨by rw [decide_eq_true hn.out]; rfl, rfl⟩
      · have ht := byte_diff hc
        replace hn := hn.2 hc
        clear hc
        go_wp2
        go_round
        case rel => exact ⟨k + 1, by omega, by go_num, hn⟩
        case measure => simp [intOf]; omega
    · have hfin : Hid (¬ c ∈ l) := Lib.hid (fun h => by have := hf.out.2 h; rw [List.drop_length] at this; cases this)
      go_wp2
      go_returns
      exact ⟨by rw [decide_eq_false hfin.out]; rfl, rfl⟩
end Go.Proofs.YtfppfaliepkhgaaDoor
