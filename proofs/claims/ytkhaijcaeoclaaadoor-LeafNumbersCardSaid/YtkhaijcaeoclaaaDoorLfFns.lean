/- Package leaf: what stands at a text's beginning, runs of signs, a heading's text, an item's content: one contract a function. -/
import Derived.Test.YtkhaijcaeoclaaaDoorLfLib
import Derived.Test.YtkhaijcaeoclaaaDoorClStrip
import Derived.Test.YtkhaijcaeoclaaaDoorCanon
import Derived.Deep.QuietTactic
import Derived.BigQuiet
namespace Go.Proofs.YtkhaijcaeoclaaaDoor
open Go.RowKit
attribute [local go_sem] canOp readsAs readUpon

/-- begins with one of the signs -/
def Lf.beg (S : List UInt8) : List UInt8 → Bool
  | [] => false
  | b :: _ => S.contains b

set_option maxHeartbeats 1000000 in
theorem begins_any (l S : List UInt8) (w : World) :
    Calls Tryd.prog 25 #[.string (bs l), .string (bs S)] w fun e w' => e = .returned (.bool (Lf.beg S l)) ∧ w = w' := by
  rcases l with _ | ⟨b, r⟩
  · have e0 := text_nil
    go_enter Tryd.func25, Tryd.ntmps25
    go_wp2_with fail
    go_ret
    exact ⟨rfl, rfl⟩
  · have e0 := text_cons b r
    have hx := run_byte (S := b :: r) (i := 0) (by simp)
    rw [List.getElem_cons_zero, show ((0 : Nat) : Int) = 0 from rfl] at hx
    have hc := fun w => indexByte_any S b w
    have ht := index_tests S b
    obtain ⟨n, hn⟩ : ∃ n, Lib.indexByte S b = n := ⟨_, rfl⟩
    rw [hn] at hc ht
    clear hn
    have hres : Lf.beg S (b :: r) = decide ((0 : Int) ≤ n) := ht.symm
    rw [hres]
    clear hres ht
    go_enter Tryd.func25, Tryd.ntmps25
    go_wp2_with (go_at_call 44; refine (hc _).mono ?_; rintro e w' ⟨rfl, rfl⟩)
    go_ret
    exact ⟨rfl, rfl⟩

theorem beg_gap (l : List UInt8) : Lf.beg [32, 9] l = (match l with | [] => false | b :: _ => Cl.isGap b) := by
  rcases l with _ | ⟨b, r⟩
  · rfl
  · exact isGap_in b
theorem begins_gap (l : List UInt8) (w : World) :
    Calls Tryd.prog 25 #[.string (bs l), .string ⟨#[32, 9]⟩] w fun e w' => e = .returned (.bool (Lf.beg [32, 9] l)) ∧ w = w' := begins_any l [32, 9] w
theorem begins_rule (l : List UInt8) (w : World) :
    Calls Tryd.prog 25 #[.string (bs l), .string ⟨#[42, 45, 95]⟩] w fun e w' => e = .returned (.bool (Lf.beg [42, 45, 95] l)) ∧ w = w' := begins_any l [42, 45, 95] w
theorem begins_item (l : List UInt8) (w : World) :
    Calls Tryd.prog 25 #[.string (bs l), .string ⟨#[42, 45, 43]⟩] w fun e w' => e = .returned (.bool (Lf.beg [42, 45, 43] l)) ∧ w = w' := begins_any l [42, 45, 43] w
theorem begins_quote (l : List UInt8) (w : World) :
    Calls Tryd.prog 25 #[.string (bs l), .string ⟨#[62]⟩] w fun e w' => e = .returned (.bool (Lf.beg [62] l)) ∧ w = w' := begins_any l [62] w
theorem beg_rule (c : UInt8) (r : List UInt8) : Lf.beg [42, 45, 95] (c :: r) = Lf.ruler c := by
  simp only [Lf.beg, Lf.ruler, List.contains, List.elem]
  cases c == 42 <;> cases c == 45 <;> cases c == 95 <;> rfl
theorem beg_item (c : UInt8) (r : List UInt8) : Lf.beg [42, 45, 43] (c :: r) = Lf.bullet c := by
  simp only [Lf.beg, Lf.bullet, List.contains, List.elem]
  cases c == 42 <;> cases c == 45 <;> cases c == 43 <;> rfl
theorem beg_quote (c : UInt8) (r : List UInt8) : Lf.beg [62] (c :: r) = decide (c = 62) := by
  simp only [Lf.beg, List.contains, List.elem]
  by_cases h : c = 62
  · subst h; rfl
  · rw [decide_eq_false h, show (c == 62) = false from beq_eq_false_iff_ne.2 h]

set_option maxHeartbeats 1000000 in
theorem apart_any (l : List UInt8) (w : World) :
    Calls Tryd.prog 21 #[.string (bs l)] w fun e w' => e = .returned (.bool (Lf.stop l)) ∧ w = w' := by
  have hb := begins_gap l
  rw [beg_gap] at hb
  rcases l with _ | ⟨b, r⟩
  · have e0 := text_nil
    go_enter Tryd.func21, Tryd.ntmps21
    go_wp2_with fail
    go_ret
    exact ⟨rfl, rfl⟩
  · have e0 := text_cons b r
    go_enter Tryd.func21, Tryd.ntmps21
    go_wp2_with (go_at_call 25; refine (hb _).mono ?_; rintro e w' ⟨rfl, rfl⟩)
    go_ret
    exact ⟨rfl, rfl⟩

set_option maxHeartbeats 1000000 in
theorem prun_any (l : List UInt8) (c : UInt8) (w : World) (hl : l.length ≤ 140737488355328) :
    Calls Tryd.prog 20 #[.string (bs l), .int .u8 (c.toNat : Int)] w fun e w' => e = .returned (.int .i64 (Fn.run c l : Nat)) ∧ w = w' := by
  have hsz := bs_size l
  go_enter Tryd.func20, Tryd.ntmps20
  go_wp2_with fail
  go_loop [5] (fun u => ∃ k : Nat, k ≤ l.length ∧ u = .int .i64 k ∧ Hid (k + Fn.run c (l.drop k) = Fn.run c l)) (fun u => l.length - (intOf u).toNat)
  case atStart => exact ⟨0, by omega, rfl, Lib.hid (by simp)⟩
  case round =>
    obtain ⟨k, hk, rfl, hf⟩ := hrel
    rcases Nat.lt_or_eq_of_le hk with hlt | rfl
    · have hx := run_byte hlt w
      by_cases hc : l[k] = c
      · have ht := byte_same hc
        have hf2 : Hid (k + 1 + Fn.run c (l.drop (k + 1)) = Fn.run c l) := Lib.hid (by have := hf.out; rw [Fn.run_at hlt hc] at this; omega)
        clear hc
        go_wp2
        go_round
        case rel => exact ⟨k + 1, by omega, by go_num, hf2⟩
        case measure => simp [intOf]; omega
      · have ht := byte_diff hc
        have hfin := Lib.hid (runs_end hf (Fn.run_no hlt hc))
        clear hc
        go_wp2
        go_returns
        exact ⟨by rw [← hfin.out]; rfl, rfl⟩
    · have hfin := Lib.hid (runs_end hf (Fn.run_end (by omega)))
      go_wp2
      go_returns
      exact ⟨by rw [← hfin.out]; rfl, rfl⟩
theorem prun_hash (l : List UInt8) (w : World) (hl : l.length ≤ 140737488355328) :
    Calls Tryd.prog 20 #[.string (bs l), .int .u8 35] w fun e w' => e = .returned (.int .i64 (Fn.run 35 l : Nat)) ∧ w = w' := prun_any l 35 w hl

set_option maxHeartbeats 1000000 in
theorem pinner_any (l : List UInt8) (w : World) (hl : l.length ≤ 140737488355328) :
    Calls Tryd.prog 19 #[.string (bs l)] w fun e w' => e = .returned (.tuple #[.int .i64 (Fn.cl l : Nat), .string (bs (Fn.rs l)), .bool (decide ((Fn.cl l : Int) ≤ 3))]) ∧ Below w.heap.size w w' := by
  have hle := Cl.lead_le Cl.inf l 0
  have hi := fun w => indent_any l w hl
  have hcl : Fn.cl l = (Cl.lead Cl.inf l 0).1 := rfl
  have hrs : Fn.rs l = l.drop (Cl.lead Cl.inf l 0).2 := rfl
  rw [hcl, hrs]
  clear hcl hrs
  obtain ⟨C, K, hCK⟩ : ∃ C K, Cl.lead Cl.inf l 0 = (C, K) := ⟨_, _, rfl⟩
  rw [hCK] at hle hi
  rw [hCK]
  simp only at hle hi ⊢
  clear hCK
  have hsl := run_from (S := l) (i := K) (by omega)
  go_enter Tryd.func19, Tryd.ntmps19
  go_wp2_with (go_at_call 34; refine (hi _).mono ?_; rintro e w' ⟨rfl, rfl⟩)
  go_quiet (fail)
  go_wp2
  go_ret3
  exact ⟨rfl, below_drewN (Below.refl _ _) _⟩

theorem back_closed {u : List UInt8} (h : Lf.closed u = true) : u = [] ∨ (Fn.back u).length < u.length := by
  rcases List.eq_nil_or_concat u with hu | ⟨r, b, hu⟩
  · exact .inl hu
  · rw [List.concat_eq_append] at hu
    subst hu
    refine .inr ?_
    have hb : Cl.isGap b = true := by simpa [Lf.closed] using h
    rw [Fn.back_snoc_gap _ hb, List.length_append]
    have := Fn.back_len r
    simp; omega
theorem back_open {u : List UInt8} (h : Lf.closed u = false) : u ≠ [] ∧ Fn.back u = u := by
  rcases List.eq_nil_or_concat u with hu | ⟨r, b, hu⟩
  · subst hu; cases h
  · rw [List.concat_eq_append] at hu
    subst hu
    have hb : Cl.isGap b = false := by simpa [Lf.closed] using h
    exact ⟨by simp, Fn.back_snoc_word _ hb⟩
theorem text_diff {a b : List UInt8} (h : a ≠ b) : ((bs a).toList == (bs b).toList) = false := by
  rw [bs_toList, bs_toList]; exact beq_eq_false_iff_ne.2 h

set_option maxHeartbeats 1000000 in
theorem unclosed_any (t : List UInt8) (w : World) (hl : t.length ≤ 140737488355328) :
    Calls Tryd.prog 22 #[.string (bs t)] w fun e w' => e = .returned (.string (bs (Lf.title t))) ∧ Below w.heap.size w w' := by
  have h1 := fun w => trimHash_any t w hl
  have htl : Lf.title t = if Lf.closed (Lf.unhash t) = true then Fn.back (Lf.unhash t) else t := rfl
  have hul := Lf.unhash_len t
  obtain ⟨u, hu⟩ : ∃ u, Lf.unhash t = u := ⟨_, rfl⟩
  rw [hu] at h1 htl hul
  have h2 := fun w => trimBack_any u w (by omega)
  clear hu
  cases hc : Lf.closed u with
  | true =>
    rw [hc, if_pos rfl] at htl
    rcases back_closed hc with rfl | hlt
    · have e0 := text_nil
      rw [htl]
      clear htl hc
      go_enter Tryd.func22, Tryd.ntmps22
      go_wp2_with fail
      refine (h1 _).mono ?_
      rintro e w1 ⟨rfl, hb1⟩
      go_wp2_with fail
      refine (h2 _).mono ?_
      rintro e w2 ⟨rfl, hb2⟩
      go_wp2_with fail
      go_ret
      exact ⟨rfl, ext_trans hb1 hb2⟩
    · have e0 : (bs u).toList.isEmpty = false := by
        rw [bs_toList]; cases u with
        | nil => simp at hlt
        | cons _ _ => rfl
      have e1 := text_diff (a := Fn.back u) (b := u) (by intro h; rw [h] at hlt; omega)
      rw [htl]
      clear htl hc
      obtain ⟨B, hB⟩ : ∃ B, Fn.back u = B := ⟨_, rfl⟩
      rw [hB] at h2 e1 ⊢
      clear hB hlt
      go_enter Tryd.func22, Tryd.ntmps22
      go_wp2_with fail
      refine (h1 _).mono ?_
      rintro e w1 ⟨rfl, hb1⟩
      go_wp2_with fail
      refine (h2 _).mono ?_
      rintro e w2 ⟨rfl, hb2⟩
      go_wp2_with fail
      go_ret
      exact ⟨rfl, ext_trans hb1 hb2⟩
  | false =>
    rw [hc, if_neg (by simp)] at htl
    obtain ⟨hne, hbk⟩ := back_open hc
    have e0 : (bs u).toList.isEmpty = false := by
      rw [bs_toList]; cases u with
      | nil => exact absurd rfl hne
      | cons _ _ => rfl
    rw [hbk] at h2
    rw [htl]
    clear htl hc hbk hne
    go_enter Tryd.func22, Tryd.ntmps22
    go_wp2_with fail
    refine (h1 _).mono ?_
    rintro e w1 ⟨rfl, hb1⟩
    go_wp2_with fail
    refine (h2 _).mono ?_
    rintro e w2 ⟨rfl, hb2⟩
    go_wp2_with fail
    go_ret
    exact ⟨rfl, ext_trans hb1 hb2⟩

/-- how far off an item's content is, and the content -/
def Lf.within (r : List UInt8) : Nat × List UInt8 := if Fn.emp r = true then (1, []) else (Lf.inner (Fn.cl r), Cl.strip (Lf.inner (Fn.cl r)) r)

set_option maxHeartbeats 2000000 in
set_option maxRecDepth 100000 in
theorem inside_any (r : List UInt8) (w : World) (hl : r.length + 3 ≤ 140737488355328) :
    Calls Tryd.prog 27 #[.string (bs r)] w fun e w' => e = .returned (.tuple #[.int .i64 ((Lf.within r).1 : Int), .string (bs (Lf.within r).2)]) ∧ Below w.heap.size w w' := by
  have he := fun w => empty_any r w (by omega)
  have hem : decide ((Cl.lead Cl.inf r 0).2 = r.length) = Fn.emp r := rfl
  rw [hem] at he
  clear hem
  have hw : Lf.within r = if Fn.emp r = true then (1, []) else (Lf.inner (Fn.cl r), Cl.strip (Lf.inner (Fn.cl r)) r) := rfl
  cases hE : Fn.emp r with
  | true =>
    rw [hE] at he
    rw [hE, if_pos rfl] at hw
    rw [hw]
    clear hw hE
    go_enter Tryd.func27, Tryd.ntmps27
    go_wp2_with fail
    refine (he _).mono ?_
    rintro e w1 ⟨rfl, rfl⟩
    go_wp2_with fail
    go_ret2
    exact ⟨rfl, Below.refl _ _⟩
  | false =>
    rw [hE] at he
    rw [hE, if_neg (by simp)] at hw
    rw [hw]
    clear hw hE
    have hin := fun w => indent_any r w (by omega)
    have hle := Cl.lead_le Cl.inf r 0
    have hcr : Fn.cl r = (Cl.lead Cl.inf r 0).1 := rfl
    rw [← hcr] at hin hle
    obtain ⟨n, hn⟩ : ∃ n, Fn.cl r = n := ⟨_, rfl⟩
    rw [hn] at hin hle ⊢
    clear hn hcr
    obtain ⟨K, hK⟩ : ∃ K, (Cl.lead Cl.inf r 0).2 = K := ⟨_, rfl⟩
    rw [hK] at hin hle
    clear hK
    have hst := fun w => strip_any r (Lf.inner n : Int) w (by omega)
    have hinn : (decide ((4 : Int) < (n : Int)) = true ∧ Lf.inner n = 1) ∨ (decide ((4 : Int) < (n : Int)) = false ∧ Lf.inner n = n) := by
      unfold Lf.inner
      by_cases h4 : 4 < n
      · exact .inl ⟨by simp; omega, if_pos h4⟩
      · exact .inr ⟨by simp; omega, if_neg h4⟩
    obtain ⟨m, hm⟩ : ∃ m, Lf.inner n = m := ⟨_, rfl⟩
    rw [hm] at hst hinn ⊢
    clear hm
    obtain ⟨S, hS⟩ : ∃ S, Cl.strip (m : Int) r = S := ⟨_, rfl⟩
    rw [hS] at hst ⊢
    clear hS
    rcases hinn with ⟨h4, rfl⟩ | ⟨h4, rfl⟩
    all_goals
      try rw [show ((1 : Nat) : Int) = 1 from rfl] at hst
      go_enter Tryd.func27, Tryd.ntmps27
      go_wp2_with fail
      refine (he _).mono ?_
      rintro e w1 ⟨rfl, rfl⟩
      go_wp2_with fail
      refine (hin _).mono ?_
      rintro e w1 ⟨rfl, rfl⟩
      go_wp2_with fail
      refine (hst _).mono ?_
      rintro e w2 ⟨rfl, hb2⟩
      go_wp2_with fail
      go_ret2
      exact ⟨rfl, hb2⟩
end Go.Proofs.YtkhaijcaeoclaaaDoor
