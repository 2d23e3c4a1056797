/- The document's own judging of a run: what is none, and all of it. -/
import Derived.Test.YtboeaofcioolnaaDoorEmKindZA
import Derived.Test.YtboeaofcioolnaaDoorEmKindZB
import Derived.Test.YtboeaofcioolnaaDoorEmKindPA
import Derived.Test.YtboeaofcioolnaaDoorEmKindPB
namespace Go.Proofs.YtboeaofcioolnaaDoor
open Go.RowKit

set_option maxHeartbeats 4000000 in
set_option maxRecDepth 100000 in
theorem rkind_off (l : List UInt8) (at_ : Int) (hs : l.length ≤ 1000000000000) (ho : at_ < 0 ∨ (0 ≤ at_ ∧ (l.length : Int) ≤ at_) ∨ (0 ≤ at_ ∧ ∃ h : at_.toNat < l.length, ((l[at_.toNat].toNat : Int) == 42) = false ∧ ((l[at_.toNat].toNat : Int) == 95) = false) ∨
      (0 < at_ ∧ ∃ h : at_.toNat < l.length, ((((l[at_.toNat].toNat : Int) == 42) = true) ∨ (((l[at_.toNat].toNat : Int) == 42) = false ∧ ((l[at_.toNat].toNat : Int) == 95) = true)) ∧ ((l[at_.toNat - 1].toNat : Int) == (l[at_.toNat].toNat : Int)) = true)) (w : World) :
    Calls Tryd.prog 16 #[.string (bs l), .int .i64 at_] w fun e w' => e = .returned (kindV none) ∧ Below w.heap.size w w' := by
  have hsz := bs_size l
  have hbz := fun nq => below_drewN (Below.refl (w.alloc (.cells #[.int .u8 0, .int .i64 0, .bool false, .bool false] 47)).heap.size (w.alloc (.cells #[.int .u8 0, .int .i64 0, .bool false, .bool false] 47))) nq
  replace hbz := Lib.hid hbz
  rcases ho with h | ⟨h0, h⟩ | ⟨h0, hl, h1, h2⟩ | ⟨h0, hl, h1, h2⟩
  · have d1 : decide (at_ < 0) = true := decide_eq_true h
    go_enter Tryd.func16, Tryd.ntmps16
    go_wp2_with fail
    go_quiet (fail)
    go_wp2_with fail
    exact bodyPost_ret (v := kindV none) (by rw [results_cell_tmp2 rfl]; go_simp; rfl) rfl ⟨rfl, blk_done (hbz.out nq) _ _ _ _⟩
  · have d1 : decide (at_ < 0) = false := decide_eq_false (by omega)
    have d2 : decide (((l.length : Nat) : Int) ≤ at_) = true := decide_eq_true h
    go_enter Tryd.func16, Tryd.ntmps16
    go_wp2_with fail
    go_quiet (fail)
    go_wp2_with fail
    exact bodyPost_ret (v := kindV none) (by rw [results_cell_tmp2 rfl]; go_simp; rfl) rfl ⟨rfl, blk_done (hbz.out nq) _ _ _ _⟩
  · have d1 : decide (at_ < 0) = false := decide_eq_false (by omega)
    have d2 : decide (((l.length : Nat) : Int) ≤ at_) = false := decide_eq_false (by omega)
    have hix := run_byte_at (i := at_.toNat) (v := at_) (S := l) hl (by omega)
    have e1 : ((l[at_.toNat].toNat : Int) != 42) = true := by simp only [bne, h1]; rfl
    have e2 : ((l[at_.toNat].toNat : Int) != 95) = true := by simp only [bne, h2]; rfl
    generalize l[at_.toNat] = ch at *
    go_enter Tryd.func16, Tryd.ntmps16
    go_wp2_with fail
    go_quiet (fail)
    go_wp2_with fail
    exact bodyPost_ret (v := kindV none) (by rw [results_cell_tmp2 rfl]; go_simp; rfl) rfl ⟨rfl, blk_done (hbz.out nq) _ _ _ _⟩
  · have d1 : decide (at_ < 0) = false := decide_eq_false (by omega)
    have d2 : decide (((l.length : Nat) : Int) ≤ at_) = false := decide_eq_false (by omega)
    have d3 : decide (0 < at_) = true := decide_eq_true h0
    have hix := run_byte_at (i := at_.toNat) (v := at_) (S := l) hl (by omega)
    have hix1 := run_byte_at (i := at_.toNat - 1) (v := at_ - 1) (S := l) (by omega) (by omega)
    have e1 : ((l[at_.toNat].toNat : Int) != 42) = !((l[at_.toNat].toNat : Int) == 42) := rfl
    have e2 : ((l[at_.toNat].toNat : Int) != 95) = !((l[at_.toNat].toNat : Int) == 95) := rfl
    generalize l[at_.toNat] = ch at *
    generalize l[at_.toNat - 1] = cp at *
    rcases h1 with h1 | ⟨h1, h1'⟩
    all_goals
      go_enter Tryd.func16, Tryd.ntmps16
      go_wp2_with fail
      go_quiet (fail)
      go_wp2_with fail
      exact bodyPost_ret (v := kindV none) (by rw [results_cell_tmp2 rfl]; go_simp; rfl) rfl ⟨rfl, blk_done (hbz.out nq) _ _ _ _⟩

theorem sign_test {b : UInt8} (h : b = 42 ∨ b = 95) : (((b.toNat : Int) == 42) = true ∧ ((b.toNat : Int) == 95) = false ∧ b ≠ 95) ∨ (((b.toNat : Int) == 42) = false ∧ ((b.toNat : Int) == 95) = true ∧ b = 95) := by
  rcases h with h | h
  · subst h; exact .inl ⟨rfl, rfl, by decide⟩
  · subst h; exact .inr ⟨rfl, rfl, rfl⟩
theorem rkind_any (l : List UInt8) (at_ : Int) (hs : l.length ≤ 1000000000000) (w : World) :
    Calls Tryd.prog 16 #[.string (bs l), .int .i64 at_] w fun e w' => e = .returned (kindV (Em.kind l at_)) ∧ Below w.heap.size w w' := by
  by_cases h0 : at_ < 0
  · rw [Em.kind_off (Em.starts_no (.inl h0))]
    exact rkind_off l at_ hs (.inl h0) w
  · by_cases h1 : (l.length : Int) ≤ at_
    · rw [Em.kind_off (Em.starts_no (.inr (.inl h1)))]
      exact rkind_off l at_ hs (.inr (.inl ⟨by omega, h1⟩)) w
    · obtain ⟨k, rfl⟩ : ∃ k : Nat, at_ = (k : Int) := ⟨at_.toNat, by omega⟩
      have hk : k < l.length := by omega
      by_cases h2 : l[k] = 42 ∨ l[k] = 95
      · have hsg := sign_test h2
        by_cases h3 : 0 < k ∧ l[k - 1] = l[k]
        · rw [Em.kind_off (Em.starts_no (l := l) (at_ := (k : Int)) (.inr (.inr (.inr ⟨by omega, hk, h3.2⟩))))]
          refine rkind_off l (k : Int) hs (.inr (.inr (.inr ⟨by omega, hk, ?_, byte_same h3.2⟩))) w
          rcases hsg with ⟨g, _⟩ | ⟨g, g', _⟩
          · exact .inl g
          · exact .inr ⟨g, g'⟩
        · rcases Nat.eq_zero_or_pos k with hz | hz
          · rw [Em.kind_on hk (Em.starts_yes hk h2 (.inl hz))]
            rcases hsg with g | g
            · exact rkind_on_z42 l k hk hs g (by omega) w
            · exact rkind_on_z95 l k hk hs g (by omega) w
          · have hne : l[k - 1] ≠ l[k] := fun h => h3 ⟨hz, h⟩
            rw [Em.kind_on hk (Em.starts_yes hk h2 (.inr ⟨by omega, hne⟩))]
            rcases hsg with g | g
            · exact rkind_on_p42 l k hk hs g (by omega) (by omega) (byte_diff hne) w
            · exact rkind_on_p95 l k hk hs g (by omega) (by omega) (byte_diff hne) w
      · have hn : l[k] ≠ 42 ∧ l[k] ≠ 95 := ⟨fun h => h2 (.inl h), fun h => h2 (.inr h)⟩
        rw [Em.kind_off (Em.starts_no (l := l) (at_ := (k : Int)) (.inr (.inr (.inl ⟨hk, hn⟩))))]
        exact rkind_off l (k : Int) hs (.inr (.inr (.inl ⟨by omega, hk, byte_ne (n := 42) (by omega) hn.1, byte_ne (n := 95) (by omega) hn.2⟩))) w
end Go.Proofs.YtboeaofcioolnaaDoor
