/- Contracts of package line: what endLength and lineFrom give back. -/
import Derived.Test.YtbddmnhmfmkbhaaLnMath
import Derived.Deep.QuietTactic
import Derived.BigQuiet
import Derived.Handy
namespace Go.Proofs.Ytbddmnhmfmkbhaa
open Go.RowKit

theorem drop_at {l : List UInt8} {k : Nat} (h : k < l.length) : l.drop k = l[k] :: l.drop (k + 1) := List.drop_eq_getElem_cons h
theorem byte_eq {b : UInt8} {n : Nat} (hn : n < 256) (h : b = UInt8.ofNat n) : ((b.toNat : Int) == (n : Int)) = true := by
  subst h; simp; omega
theorem byte_ne {b : UInt8} {n : Nat} (hn : n < 256) (h : b ≠ UInt8.ofNat n) : ((b.toNat : Int) == (n : Int)) = false := by
  rw [beq_eq_false_iff_ne]; intro he; apply h
  have : b.toNat = n := by omega
  subst this; simp
/-- the cell of a byte of a row of bytes -/
theorem byte_cell {l : List UInt8} {w : World} {B : Nat} {A : Option Addr} (h : Row w B 1 A l.length (bcells l)) (hn : 0 < l.length) :
    ∃ b o, A = some ⟨b, o, none⟩ ∧ b < B ∧ ∀ k, (hk : k < l.length) → w.cell? ⟨b, o + k, none⟩ = some (.int .u8 (l[k].toNat : Int)) := by
  obtain ⟨b, o, e, hb, hc⟩ := h.at1 hn
  exact ⟨b, o, e, hb, fun k hk => by rw [hc k hk]; simp [bcells, bv]⟩

set_option maxHeartbeats 400000 in
theorem endLength_at (l : List UInt8) (A : Option Addr) (c : Nat) (w : World) :
    Calls Try.prog 20 #[.slice A l.length c, .int .i64 l.length] w fun e w' => e = .returned (.int .i64 0) ∧ w = w' := by
  go_enter Try.func20, Try.ntmps20
  go_wp2
  go_ret
  exact ⟨rfl, rfl⟩

set_option maxHeartbeats 400000 in
theorem endLength_in (l : List UInt8) (A : Option Addr) (c k : Nat) (w : World) (B : Nat) (h : Row w B 1 A l.length (bcells l)) (hk : k < l.length) (hl : l.length ≤ 1000000000000) :
    Calls Try.prog 20 #[.slice A l.length c, .int .i64 k] w fun e w' => e = .returned (.int .i64 (Ln.endLen (l.drop k) : Nat)) ∧ w = w' := by
  obtain ⟨b, o, rfl, hb, hc⟩ := byte_cell h (by omega)
  have h0 := hc k hk
  have hne : ((k : Int) == (l.length : Int)) = false := by rw [beq_eq_false_iff_ne]; omega
  by_cases h13 : l[k] = 13
  · have t13 : ((l[k].toNat : Int) == (13 : Int)) = true := byte_eq (n := 13) (by omega) h13
    by_cases hlt : k + 1 < l.length
    · have h1 := hc (k + 1) hlt
      by_cases h10 : l[k + 1] = 10
      · have t10 : ((l[k + 1].toNat : Int) == (10 : Int)) = true := byte_eq (n := 10) (by omega) h10
        have hfin := Lib.hid (show Ln.endLen (l.drop k) = 2 from by rw [drop_at hk, drop_at hlt, h13, h10]; rfl)
        clear hc h h13 h10
        go_enter Try.func20, Try.ntmps20
        go_wp2
        go_ret
        exact ⟨by rw [hfin.out]; rfl, rfl⟩
      · have t10 : ((l[k + 1].toNat : Int) == (10 : Int)) = false := byte_ne (n := 10) (by omega) h10
        have hfin := Lib.hid (show Ln.endLen (l.drop k) = 1 from by rw [drop_at hk, drop_at hlt, h13]; exact Ln.endLen_cr _ h10)
        clear hc h h13 h10
        go_enter Try.func20, Try.ntmps20
        go_wp2
        go_ret
        exact ⟨by rw [hfin.out]; rfl, rfl⟩
    · have hfin := Lib.hid (show Ln.endLen (l.drop k) = 1 from by rw [drop_at hk, List.drop_of_length_le (by omega), h13]; rfl)
      clear hc h h13
      go_enter Try.func20, Try.ntmps20
      go_wp2
      go_ret
      exact ⟨by rw [hfin.out]; rfl, rfl⟩
  · have t13 : ((l[k].toNat : Int) == (13 : Int)) = false := byte_ne (n := 13) (by omega) h13
    have hfin := Lib.hid (show Ln.endLen (l.drop k) = 1 from by rw [drop_at hk]; exact Ln.endLen_else _ h13)
    clear hc h h13
    go_enter Try.func20, Try.ntmps20
    go_wp2
    go_ret
    exact ⟨by rw [hfin.out]; rfl, rfl⟩

theorem endLength_any (l : List UInt8) (A : Option Addr) (c k : Nat) (w : World) (B : Nat) (h : Row w B 1 A l.length (bcells l)) (hk : k ≤ l.length) (hl : l.length ≤ 1000000000000) :
    Calls Try.prog 20 #[.slice A l.length c, .int .i64 k] w fun e w' => e = .returned (.int .i64 (Ln.endLen (l.drop k) : Nat)) ∧ w = w' := by
  rcases Nat.lt_or_eq_of_le hk with h1 | rfl
  · exact endLength_in l A c k w B h h1 hl
  · rw [List.drop_length]; exact endLength_at l A c w

/-- what a byte says to the two tests of a line's end -/
theorem end_tests {x : UInt8} (h : Ln.isEnd x = true) : ((x.toNat : Int) != (10 : Int)) = false ∨ ((x.toNat : Int) != (10 : Int)) = true ∧ ((x.toNat : Int) != (13 : Int)) = false := by
  simp only [Ln.isEnd, Bool.or_eq_true, beq_iff_eq] at h
  rcases h with rfl | rfl
  · exact .inl rfl
  · exact .inr ⟨rfl, rfl⟩
theorem noend_tests {x : UInt8} (h : ¬ Ln.isEnd x = true) : ((x.toNat : Int) != (10 : Int)) = true ∧ ((x.toNat : Int) != (13 : Int)) = true := by
  simp only [Ln.isEnd, Bool.or_eq_true, beq_iff_eq, not_or] at h
  have h1 := byte_ne (n := 10) (by omega) h.1
  have h2 := byte_ne (n := 13) (by omega) h.2
  exact ⟨by simpa using h1, by simpa using h2⟩
theorem lf_fin {l : List UInt8} {k j : Nat} (h : Ln.eol l k = j) : Ending.returned (.agg #[.int .i64 k, .int .i64 j, .int .i64 ((j : Int) + (Ln.endLen (l.drop j) : Nat))]) = .returned (.agg #[.int .i64 k, .int .i64 (Ln.eol l k : Nat), .int .i64 (Ln.nxt l k : Nat)]) := by
  unfold Ln.nxt; rw [h]; simp

theorem lf_fin_end {l : List UInt8} {k : Nat} (h : Ln.eol l k = l.length) : Ending.returned (.agg #[.int .i64 k, .int .i64 l.length, .int .i64 l.length]) = .returned (.agg #[.int .i64 k, .int .i64 (Ln.eol l k : Nat), .int .i64 (Ln.nxt l k : Nat)]) := by
  unfold Ln.nxt; rw [h]; simp [Ln.endLen]

set_option maxHeartbeats 400000 in
theorem lineFrom_any (l : List UInt8) (A : Option Addr) (c k : Nat) (w : World) (h : Row w w.heap.size 1 A l.length (bcells l)) (hk : k ≤ l.length) (hl : l.length ≤ 1000000000000) :
    Calls Try.prog 19 #[.slice A l.length c, .int .i64 k] w fun e w' =>
      e = .returned (.agg #[.int .i64 k, .int .i64 (Ln.eol l k : Nat), .int .i64 (Ln.nxt l k : Nat)]) ∧ Below w.heap.size w w' := by
  have hL0 := h.alloc (Nat.le_refl _) (.cells #[.int .i64 0, .int .i64 0, .int .i64 0] 31)
  have hL := Lib.hid hL0
  clear hL0
  go_enter Try.func19, Try.ntmps19
  go_wp2_with fail
  go_loop [5] (fun v => ∃ j : Nat, k ≤ j ∧ j ≤ l.length ∧ v = .int .i64 j ∧ Hid (Ln.eol l j = Ln.eol l k)) (fun v => l.length - (intOf v).toNat)
  case atStart => exact ⟨k, Nat.le_refl _, hk, rfl, Lib.hid rfl⟩
  case round =>
    obtain ⟨j, hkj, hj, rfl, hej⟩ := hrel
    have hjn : j + Ln.endLen (l.drop j) ≤ l.length := by have := Ln.endLen_le (l.drop j); rw [List.length_drop] at this; omega
    rcases Nat.lt_or_eq_of_le hj with hlt | rfl
    · obtain ⟨b, o, rfl, hb, hc⟩ := byte_cell h (by omega)
      have h0 := hc j hlt
      by_cases hEnd : Ln.isEnd l[j] = true
      · have hje := Lib.hid (show Ln.eol l k = j from by rw [← hej.out]; exact Ln.eol_end hlt hEnd)
        have h1 := end_tests hEnd
        clear hc hEnd h
        rcases h1 with h10 | ⟨h10, h13⟩
        all_goals
          go_wp2_with fail
          refine (endLength_any l _ c j _ w.heap.size hL.out (by omega) hl).mono ?_
          rintro e w' ⟨rfl, rfl⟩
          go_wp2
          go_returns
          exact ⟨lf_fin hje.out, by go_grown⟩
      · have hje := Lib.hid (show Ln.eol l (j + 1) = Ln.eol l k from by rw [← hej.out]; exact Ln.eol_step hlt (by simpa using hEnd))
        obtain ⟨h10, h13⟩ := noend_tests hEnd
        clear hc hEnd h
        go_wp2
        go_round
        case rel => exact ⟨j + 1, by omega, by omega, by go_num, hje⟩
        case measure => simp [intOf]; omega
    · have hje := Lib.hid (show Ln.eol l k = l.length from by rw [← hej.out]; exact Ln.eol_at l)
      clear h
      go_wp2_with fail
      refine (endLength_at l _ c _).mono ?_
      rintro e w' ⟨rfl, rfl⟩
      go_wp2
      go_returns
      exact ⟨lf_fin_end hje.out, by go_grown⟩
end Go.Proofs.Ytbddmnhmfmkbhaa
