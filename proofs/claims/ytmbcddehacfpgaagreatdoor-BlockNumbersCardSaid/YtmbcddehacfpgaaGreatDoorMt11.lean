/- Package fence and the document's own answer: one contract for each function that counts signs or cuts a text. -/
import Derived.Test.YtmbcddehacfpgaaGreatDoorMt02
import Derived.Deep.CutBlock
import Derived.Deep.QuietTactic
import Derived.BigQuiet
namespace Go.Proofs.YtmbcddehacfpgaaGreatDoor
open Go.RowKit

theorem runs_end {c : UInt8} {l : List UInt8} {k : Nat} (h : Hid (k + Fn.run c (l.drop k) = Fn.run c l)) (h0 : Fn.run c (l.drop k) = 0) : k = Fn.run c l := by
  have := h.out; omega

set_option maxHeartbeats 1000000 in
theorem run_any (l : List UInt8) (c : UInt8) (w : World) (hl : l.length ≤ 140737488355328) :
    Calls Tryz.prog 80 #[.string (bs l), .int .u8 (c.toNat : Int)] w fun e w' => e = .returned (.int .i64 (Fn.run c l : Nat)) ∧ w = w' := by
  have hsz := bs_size l
  go_enter Tryz.func80, Tryz.ntmps80
  go_wp2_with fail
  go_loop [5] (fun u => ∃ k : Nat, k ≤ l.length ∧ u = .int .i64 k ∧ Hid (k + Fn.run c (l.drop k) = Fn.run c l)) (fun u => l.length - (intOf u).toNat)
  case atStart => exact ⟨0, by omega, rfl, Lib.hid (by simp)⟩
  case round =>
    obtain ⟨k, hk, rfl, hf⟩ := hrel
    rcases Nat.lt_or_eq_of_le hk with hlt | rfl
    · have hx := run_byte hlt w
      by_cases hc : l[k] = c
      · have ht := byte_same hc
        have hf2 : Hid (k + 1 + Fn.run c (l.drop (k + 1)) = Fn.run c l) := Lib.hid (by have := hf.out; rw [Fn.run_at hlt hc] at this; omega)
        clear hc
        go_wp2
        go_round
        case rel => exact ⟨k + 1, by omega, by go_num, hf2⟩
        case measure => simp [intOf]; omega
      · have ht := byte_diff hc
        have hfin := Lib.hid (runs_end hf (Fn.run_no hlt hc))
        clear hc
        go_wp2
        go_returns
        exact ⟨by rw [← hfin.out]; rfl, rfl⟩
    · have hfin := Lib.hid (runs_end hf (Fn.run_end (by omega)))
      go_wp2
      go_returns
      exact ⟨by rw [← hfin.out]; rfl, rfl⟩

theorem runs_end2 {c : UInt8} {l : List UInt8} {a k : Nat} (h : Hid (k + Fn.run c (l.drop (a + k)) = Fn.run c (l.drop a))) (h0 : Fn.run c (l.drop (a + k)) = 0) : k = Fn.run c (l.drop a) := by
  have := h.out; omega

set_option maxHeartbeats 1000000 in
set_option maxRecDepth 100000 in
theorem rrun_any (l : List UInt8) (a : Nat) (c : UInt8) (w : World) (hl : l.length ≤ 140737488355328) (ha : a ≤ l.length) :
    Calls Tryz.prog 69 #[.string (bs l), .int .i64 (a : Int), .int .u8 (c.toNat : Int)] w fun e w' => e = .returned (.int .i64 (Fn.run c (l.drop a) : Nat)) ∧ w = w' := by
  have hsz := bs_size l
  go_enter Tryz.func69, Tryz.ntmps69
  go_wp2_with fail
  go_loop [7] (fun u => ∃ k : Nat, a + k ≤ l.length ∧ u = .int .i64 k ∧ Hid (k + Fn.run c (l.drop (a + k)) = Fn.run c (l.drop a))) (fun u => l.length - (intOf u).toNat)
  case atStart => exact ⟨0, by omega, rfl, Lib.hid (by simp)⟩
  case round =>
    obtain ⟨k, hk, rfl, hf⟩ := hrel
    by_cases hlt : a + k < l.length
    · have hx := run_byte hlt w
      rw [Int.natCast_add] at hx
      by_cases hc : l[a + k] = c
      · have ht := byte_same hc
        have hf2 : Hid (k + 1 + Fn.run c (l.drop (a + (k + 1))) = Fn.run c (l.drop a)) := Lib.hid (by have := hf.out; rw [Fn.run_at hlt hc] at this; rw [← Nat.add_assoc a]; omega)
        clear hc
        go_wp2
        go_round
        case rel => exact ⟨k + 1, by omega, by go_num, hf2⟩
        case measure => simp [intOf]; omega
      · have ht := byte_diff hc
        have hfin := Lib.hid (runs_end2 hf (Fn.run_no hlt hc))
        clear hc
        go_wp2
        go_returns
        exact ⟨by rw [← hfin.out]; rfl, rfl⟩
    · have hfin := Lib.hid (runs_end2 hf (Fn.run_end hlt))
      go_wp2
      go_returns
      exact ⟨by rw [← hfin.out]; rfl, rfl⟩

theorem lgs_next {m k : Nat} {l : List UInt8} (h : Hid (max m (Fn.lg (l.drop k)) = Fn.lg l)) : max (max m (Fn.run 96 (l.drop k))) (Fn.lg (l.drop (k + Fn.run 96 (l.drop k) + 1))) = Fn.lg l := by
  have h1 := h.out
  have h2 := Fn.lg_skip (l.drop k)
  rw [List.drop_drop] at h2
  rw [← h1, h2, show k + (Fn.run 96 (l.drop k) + 1) = k + Fn.run 96 (l.drop k) + 1 from rfl]
  omega
theorem lgs_done {m k : Nat} {l : List UInt8} (h : Hid (max m (Fn.lg (l.drop k)) = Fn.lg l)) (hk : ¬ k < l.length) : m = Fn.lg l := by
  have h1 := h.out
  rw [List.drop_eq_nil_of_le (by omega)] at h1
  simpa [Fn.lg] using h1
theorem max_cast (m n : Nat) : Value.int .i64 (if m < n then (n : Int) else (m : Int)) = .int .i64 ((max m n : Nat) : Int) := by
  congr 1; split <;> omega

set_option maxHeartbeats 1000000 in
theorem inner_any (l : List UInt8) (w : World) (hl : l.length ≤ 140737488355328) :
    Calls Tryz.prog 79 #[.string (bs l)] w fun e w' => e = .returned (.tuple #[.int .i64 (Fn.cl l : Nat), .string (bs (Fn.rs l)), .bool (decide ((Fn.cl l : Int) ≤ 3))]) ∧ Below w.heap.size w w' := by
  have hle := Cl.lead_le Cl.inf l 0
  have hi := fun w => indent_any l w hl
  have hcl : Fn.cl l = (Cl.lead Cl.inf l 0).1 := rfl
  have hrs : Fn.rs l = l.drop (Cl.lead Cl.inf l 0).2 := rfl
  rw [hcl, hrs]
  clear hcl hrs
  obtain ⟨C, K, hCK⟩ : ∃ C K, Cl.lead Cl.inf l 0 = (C, K) := ⟨_, _, rfl⟩
  rw [hCK] at hle hi
  rw [hCK]
  simp only at hle hi ⊢
  clear hCK
  have hsl := run_from (S := l) (i := K) (by omega)
  go_enter Tryz.func79, Tryz.ntmps79
  go_wp2_with (go_at_call 104; refine (hi _).mono ?_; rintro e w' ⟨rfl, rfl⟩)
  go_quiet (fail)
  go_wp2
  go_ret3
  exact ⟨rfl, below_drewN (Below.refl _ _) _⟩

theorem front_end {t l : List UInt8} (h : Hid (Fn.front t = Fn.front l)) (ht : t = [] ∨ ∃ b r, t = b :: r ∧ Cl.isGap b = false) : Fn.front l = t := by
  rw [← h.out]
  rcases ht with rfl | ⟨b, r, rfl, hb⟩
  · rfl
  · exact Fn.front_word r hb

theorem back_end {t l : List UInt8} (h : Hid (Fn.back t = Fn.back l)) (ht : t = [] ∨ ∃ b r, t = r ++ [b] ∧ Cl.isGap b = false) : Fn.back l = t := by
  rw [← h.out]
  rcases ht with rfl | ⟨b, r, rfl, hb⟩
  · rfl
  · exact Fn.back_snoc_word r hb

def szv : Value → Nat
  | .string s => s.size
  | _ => 0

set_option maxHeartbeats 1000000 in
theorem rback_any (l : List UInt8) (w : World) (hl : l.length ≤ 140737488355328) :
    Calls Tryz.prog 102 #[.string (bs l)] w fun e w' => e = .returned (.string (bs (Fn.back l))) ∧ w = w' := by
  go_enter Tryz.func102, Tryz.ntmps102
  go_wp2_with fail
  go_loop [0] (fun u => ∃ t : List UInt8, t.length ≤ l.length ∧ u = .string (bs t) ∧ Hid (Fn.back t = Fn.back l)) (fun u => szv u)
  case atStart => exact ⟨l, by omega, rfl, Lib.hid rfl⟩
  case round =>
    obtain ⟨t, hk, rfl, hf⟩ := hrel
    rcases (show t = [] ∨ ∃ r b, t = r ++ [b] from by
      rcases List.eq_nil_or_concat t with h | ⟨r, b, h⟩
      · exact .inl h
      · exact .inr ⟨r, b, by rw [h, List.concat_eq_append]⟩) with rfl | ⟨r, b, rfl⟩
    · have hfin := Lib.hid (back_end hf (.inl rfl))
      go_wp2
      go_returns
      exact ⟨by rw [hfin.out]; rfl, rfl⟩
    · have hsz : (bs (r ++ [b])).size = r.length + 1 := by rw [bs_size, List.length_append]; rfl
      have hxx := run_byte (S := r ++ [b]) (i := r.length) (by simp) w
      rw [List.getElem_concat_length rfl] at hxx
      rw [List.length_append] at hk
      have hup := run_upto (S := r ++ [b]) (i := r.length) (by simp) w
      rw [List.take_left] at hup
      have hg := gap_any b
      have hm : szv (.string (bs r)) < szv (.string (bs (r ++ [b]))) := by simp only [szv, bs_size, List.length_append]; simp
      replace hm := Lib.hid hm
      cases h3 : Cl.isGap b with
      | true =>
        have hf2 : Hid (Fn.back r = Fn.back l) := Lib.hid (by rw [← hf.out, Fn.back_snoc_gap r h3])
        rw [h3] at hg
        clear h3
        go_wp2_with (go_at_call 70; refine (hg _).mono ?_; rintro e w' ⟨rfl, rfl⟩)
        go_round
        case rel => exact ⟨r, by omega, rfl, hf2⟩
        case measure => exact hm.out
      | false =>
        have hfin := Lib.hid (back_end hf (.inr ⟨b, r, rfl, h3⟩))
        rw [h3] at hg
        clear h3
        go_wp2_with (go_at_call 70; refine (hg _).mono ?_; rintro e w' ⟨rfl, rfl⟩)
        go_returns
        exact ⟨by rw [hfin.out]; rfl, rfl⟩

set_option maxHeartbeats 1000000 in
theorem rtrim_any (l : List UInt8) (w : World) (hl : l.length ≤ 140737488355328) :
    Calls Tryz.prog 76 #[.string (bs l)] w fun e w' => e = .returned (.string (bs (Fn.trim l))) ∧ w = w' := by
  go_enter Tryz.func76, Tryz.ntmps76
  go_wp2_with fail
  go_loop [0] (fun u => ∃ t : List UInt8, t.length ≤ l.length ∧ u = .string (bs t) ∧ Hid (Fn.front t = Fn.front l)) (fun u => szv u)
  case atStart => exact ⟨l, by omega, rfl, Lib.hid rfl⟩
  case round =>
    obtain ⟨t, hk, rfl, hf⟩ := hrel
    have hb := fun w => rback_any t w (by omega)
    have hfe := front_end hf
    rcases t with _ | ⟨b, r⟩
    · have hfin : Hid (Fn.trim l = Fn.back []) := Lib.hid (congrArg Fn.back (hfe (.inl rfl)))
      clear hfe
      go_wp2_with (go_at_call 102; refine (hb _).mono ?_; rintro e w' ⟨rfl, rfl⟩)
      go_returns
      exact ⟨by rw [hfin.out]; rfl, rfl⟩
    · have hsz : (bs (b :: r)).size = r.length + 1 := by rw [bs_size, List.length_cons]
      have hxx := run_byte (S := b :: r) (i := 0) (by simp) w
      rw [List.getElem_cons_zero] at hxx
      rw [List.length_cons] at hk
      have hup : Hid ((bs (b :: r)).extract 1 (r.length + 1) = bs r) := Lib.hid (by
        apply ByteArray.ext
        simp only [bs, ByteArray.data_extract, List.extract_toArray, List.extract_eq_take_drop]
        rw [List.take_of_length_le (by simp)]; rfl)
      have hg := gap_any b
      have hm : szv (.string (bs r)) < szv (.string (bs (b :: r))) := by simp only [szv, bs_size, List.length_cons]; omega
      replace hm := Lib.hid hm
      cases h3 : Cl.isGap b with
      | true =>
        have hf2 : Hid (Fn.front r = Fn.front l) := Lib.hid (by rw [← hf.out, Fn.front_gap r h3])
        rw [h3] at hg
        clear h3 hfe
        go_wp2_with (go_at_call 70; refine (hg _).mono ?_; rintro e w' ⟨rfl, rfl⟩)
        go_round
        case rel => exact ⟨r, by omega, congrArg Value.string hup.out, hf2⟩
        case measure => rw [← hup.out] at hm; exact hm.out
      | false =>
        have hfin : Hid (Fn.trim l = Fn.back (b :: r)) := Lib.hid (congrArg Fn.back (hfe (.inr ⟨b, r, rfl, h3⟩)))
        rw [h3] at hg
        clear h3 hfe
        go_wp2_with (first | (go_at_call 70; refine (hg _).mono ?_; rintro e w' ⟨rfl, rfl⟩) | (go_at_call 102; refine (hb _).mono ?_; rintro e w' ⟨rfl, rfl⟩))
        go_returns
        exact ⟨by rw [hfin.out]; rfl, rfl⟩

theorem has_next {l : List UInt8} {c : UInt8} {k : Nat} (hk : k < l.length) (h : Hid (c ∈ l.drop k ↔ c ∈ l)) : (l[k] = c → c ∈ l) ∧ (l[k] ≠ c → Hid (c ∈ l.drop (k + 1) ↔ c ∈ l)) := by
  have h1 := h.out
  rw [List.drop_eq_getElem_cons hk, List.mem_cons] at h1
  refine ⟨fun e => h1.1 (.inl e.symm), fun e => Lib.hid ?_⟩
  rw [← h1]
  exact ⟨.inr, fun h => h.resolve_left (fun e' => e e'.symm)⟩

set_option maxHeartbeats 1000000 in
theorem rhas_any (l : List UInt8) (c : UInt8) (w : World) (hl : l.length ≤ 140737488355328) :
    Calls Tryz.prog 103 #[.string (bs l), .int .u8 (c.toNat : Int)] w fun e w' => e = .returned (.bool (decide (c ∈ l))) ∧ w = w' := by
  have hsz := bs_size l
  go_enter Tryz.func103, Tryz.ntmps103
  go_wp2_with fail
  go_loop [5] (fun u => ∃ k : Nat, k ≤ l.length ∧ u = .int .i64 k ∧ Hid (c ∈ l.drop k ↔ c ∈ l)) (fun u => l.length - (intOf u).toNat)
  case atStart => exact ⟨0, by omega, rfl, Lib.hid (by simp)⟩
  case round =>
    obtain ⟨k, hk, rfl, hf⟩ := hrel
    rcases Nat.lt_or_eq_of_le hk with hlt | rfl
    · have hx := run_byte hlt w
      have hn := has_next hlt hf
      by_cases hc : l[k] = c
      · have ht := byte_same hc
        replace hn := Lib.hid (hn.1 hc)
        clear hc
        go_wp2
        go_returns
        exact ⟨by rw [decide_eq_true hn.out]; rfl, rfl⟩
      · have ht := byte_diff hc
        replace hn := hn.2 hc
        clear hc
        go_wp2
        go_round
        case rel => exact ⟨k + 1, by omega, by go_num, hn⟩
        case measure => simp [intOf]; omega
    · have hfin : Hid (¬ c ∈ l) := Lib.hid (fun h => by have := hf.out.2 h; rw [List.drop_length] at this; cases this)
      go_wp2
      go_returns
      exact ⟨by rw [decide_eq_false hfin.out]; rfl, rfl⟩

theorem text_cell {l : List (List UInt8)} {w : World} {B : Nat} {A : Option Addr} (h : Row w B 1 A l.length (scells l)) (hn : 0 < l.length) :
    ∃ b o, A = some ⟨b, o, none⟩ ∧ b < B ∧ ∀ k, (hk : k < l.length) → w.cell? ⟨b, o + k, none⟩ = some (.string (bs l[k])) := by
  obtain ⟨b, o, e, hb, hc⟩ := h.at1 hn
  exact ⟨b, o, e, hb, fun k hk => by rw [hc k hk]; simp [scells]⟩

theorem long_next {m k : Nat} {ls : List (List UInt8)} (hk : k < ls.length) (h : Hid (max m (Fn.lgs (ls.drop k)) = Fn.lgs ls)) : max (max m (Fn.lg ls[k])) (Fn.lgs (ls.drop (k + 1))) = Fn.lgs ls := by
  have h1 := h.out
  rw [Fn.lgs_at hk] at h1
  omega
theorem long_done {m k : Nat} {ls : List (List UInt8)} (h : Hid (max m (Fn.lgs (ls.drop k)) = Fn.lgs ls)) (hk : ¬ k < ls.length) : m = Fn.lgs ls := by
  have h1 := h.out
  rw [Fn.lgs_end hk] at h1
  omega

end Go.Proofs.YtmbcddehacfpgaaGreatDoor
