/- Package leaf: what stands at a text's beginning, runs of signs, a heading's text, an item's content: one contract a function. Package leaf: headings, breaks, quotes, items. -/
import Derived.Test.YtmmgfoepfapnkaaGreatDoorQ19
import Derived.Test.YtmmgfoepfapnkaaGreatDoorQ03
import Derived.Deep.QuietTactic
import Derived.BigQuiet
import Derived.Test.YtmmgfoepfapnkaaGreatDoorQ10
namespace Go.Proofs.YtmmgfoepfapnkaaGreatDoor
open Go.RowKit
attribute [local go_sem] canOp readsAs readUpon

/-- begins with one of the signs -/
def Lf.beg (S : List UInt8) : List UInt8 → Bool
  | [] => false
  | b :: _ => S.contains b

set_option maxHeartbeats 1000000 in
theorem lf_pbegins_any (l S : List UInt8) (w : World) :
    Calls Tryz.prog 183 #[.string (bs l), .string (bs S)] w fun e w' => e = .returned (.bool (Lf.beg S l)) ∧ w = w' := by
  rcases l with _ | ⟨b, r⟩
  · have e0 := text_nil
    go_enter Tryz.func183, Tryz.ntmps183
    go_wp2_with fail
    go_ret
    exact ⟨rfl, rfl⟩
  · have e0 := text_cons b r
    have hx := run_byte (S := b :: r) (i := 0) (by simp)
    rw [List.getElem_cons_zero, show ((0 : Nat) : Int) = 0 from rfl] at hx
    have hc := fun w => indexByte_any S b w
    have ht := index_tests S b
    obtain ⟨n, hn⟩ : ∃ n, Lib.indexByte S b = n := ⟨_, rfl⟩
    rw [hn] at hc ht
    clear hn
    have hres : Lf.beg S (b :: r) = decide ((0 : Int) ≤ n) := ht.symm
    rw [hres]
    clear hres ht
    go_enter Tryz.func183, Tryz.ntmps183
    go_wp2_with (go_at_call 87; refine (hc _).mono ?_; rintro e w' ⟨rfl, rfl⟩)
    go_ret
    exact ⟨rfl, rfl⟩

theorem beg_gap (l : List UInt8) : Lf.beg [32, 9] l = (match l with | [] => false | b :: _ => Cl.isGap b) := by
  rcases l with _ | ⟨b, r⟩
  · rfl
  · exact isGap_in b
theorem begins_gap (l : List UInt8) (w : World) :
    Calls Tryz.prog 183 #[.string (bs l), .string ⟨#[32, 9]⟩] w fun e w' => e = .returned (.bool (Lf.beg [32, 9] l)) ∧ w = w' := lf_pbegins_any l [32, 9] w
theorem begins_rule (l : List UInt8) (w : World) :
    Calls Tryz.prog 183 #[.string (bs l), .string ⟨#[42, 45, 95]⟩] w fun e w' => e = .returned (.bool (Lf.beg [42, 45, 95] l)) ∧ w = w' := lf_pbegins_any l [42, 45, 95] w
theorem begins_item (l : List UInt8) (w : World) :
    Calls Tryz.prog 183 #[.string (bs l), .string ⟨#[42, 45, 43]⟩] w fun e w' => e = .returned (.bool (Lf.beg [42, 45, 43] l)) ∧ w = w' := lf_pbegins_any l [42, 45, 43] w
theorem begins_quote (l : List UInt8) (w : World) :
    Calls Tryz.prog 183 #[.string (bs l), .string ⟨#[62]⟩] w fun e w' => e = .returned (.bool (Lf.beg [62] l)) ∧ w = w' := lf_pbegins_any l [62] w
theorem beg_rule (c : UInt8) (r : List UInt8) : Lf.beg [42, 45, 95] (c :: r) = Lf.ruler c := by
  simp only [Lf.beg, Lf.ruler, List.contains, List.elem]
  cases c == 42 <;> cases c == 45 <;> cases c == 95 <;> rfl
theorem beg_item (c : UInt8) (r : List UInt8) : Lf.beg [42, 45, 43] (c :: r) = Lf.bullet c := by
  simp only [Lf.beg, Lf.bullet, List.contains, List.elem]
  cases c == 42 <;> cases c == 45 <;> cases c == 43 <;> rfl
theorem beg_quote (c : UInt8) (r : List UInt8) : Lf.beg [62] (c :: r) = decide (c = 62) := by
  simp only [Lf.beg, List.contains, List.elem]
  by_cases h : c = 62
  · subst h; rfl
  · rw [decide_eq_false h, show (c == 62) = false from beq_eq_false_iff_ne.2 h]

set_option maxHeartbeats 1000000 in
theorem apart_any (l : List UInt8) (w : World) :
    Calls Tryz.prog 181 #[.string (bs l)] w fun e w' => e = .returned (.bool (Lf.stop l)) ∧ w = w' := by
  have hb := begins_gap l
  rw [beg_gap] at hb
  rcases l with _ | ⟨b, r⟩
  · have e0 := text_nil
    go_enter Tryz.func181, Tryz.ntmps181
    go_wp2_with fail
    go_ret
    exact ⟨rfl, rfl⟩
  · have e0 := text_cons b r
    go_enter Tryz.func181, Tryz.ntmps181
    go_wp2_with (go_at_call 183; refine (hb _).mono ?_; rintro e w' ⟨rfl, rfl⟩)
    go_ret
    exact ⟨rfl, rfl⟩

set_option maxHeartbeats 1000000 in
theorem lf_prun_any (l : List UInt8) (c : UInt8) (w : World) (hl : l.length ≤ 140737488355328) :
    Calls Tryz.prog 180 #[.string (bs l), .int .u8 (c.toNat : Int)] w fun e w' => e = .returned (.int .i64 (Fn.run c l : Nat)) ∧ w = w' := by
  have hsz := bs_size l
  go_enter Tryz.func180, Tryz.ntmps180
  go_wp2_with fail
  go_loop [5] (fun u => ∃ k : Nat, k ≤ l.length ∧ u = .int .i64 k ∧ Hid (k + Fn.run c (l.drop k) = Fn.run c l)) (fun u => l.length - (intOf u).toNat)
  case atStart => exact ⟨0, by omega, rfl, Lib.hid (by simp)⟩
  case round =>
    obtain ⟨k, hk, rfl, hf⟩ := hrel
    rcases Nat.lt_or_eq_of_le hk with hlt | rfl
    · have hx := run_byte hlt w
      by_cases hc : l[k] = c
      · have ht := byte_same hc
        have hf2 : Hid (k + 1 + Fn.run c (l.drop (k + 1)) = Fn.run c l) := Lib.hid (by have := hf.out; rw [Fn.run_at hlt hc] at this; omega)
        clear hc
        go_wp2
        go_round
        case rel => exact ⟨k + 1, by omega, by go_num, hf2⟩
        case measure => simp [intOf]; omega
      · have ht := byte_diff hc
        have hfin := Lib.hid (runs_end hf (Fn.run_no hlt hc))
        clear hc
        go_wp2
        go_returns
        exact ⟨by rw [← hfin.out]; rfl, rfl⟩
    · have hfin := Lib.hid (runs_end hf (Fn.run_end (by omega)))
      go_wp2
      go_returns
      exact ⟨by rw [← hfin.out]; rfl, rfl⟩
theorem prun_hash (l : List UInt8) (w : World) (hl : l.length ≤ 140737488355328) :
    Calls Tryz.prog 180 #[.string (bs l), .int .u8 35] w fun e w' => e = .returned (.int .i64 (Fn.run 35 l : Nat)) ∧ w = w' := lf_prun_any l 35 w hl

set_option maxHeartbeats 1000000 in
theorem pinner_any (l : List UInt8) (w : World) (hl : l.length ≤ 140737488355328) :
    Calls Tryz.prog 179 #[.string (bs l)] w fun e w' => e = .returned (.tuple #[.int .i64 (Fn.cl l : Nat), .string (bs (Fn.rs l)), .bool (decide ((Fn.cl l : Int) ≤ 3))]) ∧ Below w.heap.size w w' := by
  have hle := Cl.lead_le Cl.inf l 0
  have hi := fun w => indent_any l w hl
  have hcl : Fn.cl l = (Cl.lead Cl.inf l 0).1 := rfl
  have hrs : Fn.rs l = l.drop (Cl.lead Cl.inf l 0).2 := rfl
  rw [hcl, hrs]
  clear hcl hrs
  obtain ⟨C, K, hCK⟩ : ∃ C K, Cl.lead Cl.inf l 0 = (C, K) := ⟨_, _, rfl⟩
  rw [hCK] at hle hi
  rw [hCK]
  simp only at hle hi ⊢
  clear hCK
  have hsl := run_from (S := l) (i := K) (by omega)
  go_enter Tryz.func179, Tryz.ntmps179
  go_wp2_with (go_at_call 193; refine (hi _).mono ?_; rintro e w' ⟨rfl, rfl⟩)
  go_quiet (fail)
  go_wp2
  go_ret3
  exact ⟨rfl, below_drewN (Below.refl _ _) _⟩

theorem back_closed {u : List UInt8} (h : Lf.closed u = true) : u = [] ∨ (Fn.back u).length < u.length := by
  rcases List.eq_nil_or_concat u with hu | ⟨r, b, hu⟩
  · exact .inl hu
  · rw [List.concat_eq_append] at hu
    subst hu
    refine .inr ?_
    have hb : Cl.isGap b = true := by simpa [Lf.closed] using h
    rw [Fn.back_snoc_gap _ hb, List.length_append]
    have := Fn.back_len r
    simp; omega
theorem back_open {u : List UInt8} (h : Lf.closed u = false) : u ≠ [] ∧ Fn.back u = u := by
  rcases List.eq_nil_or_concat u with hu | ⟨r, b, hu⟩
  · subst hu; cases h
  · rw [List.concat_eq_append] at hu
    subst hu
    have hb : Cl.isGap b = false := by simpa [Lf.closed] using h
    exact ⟨by simp, Fn.back_snoc_word _ hb⟩
theorem text_diff {a b : List UInt8} (h : a ≠ b) : ((bs a).toList == (bs b).toList) = false := by
  rw [bs_toList, bs_toList]; exact beq_eq_false_iff_ne.2 h

set_option maxHeartbeats 1000000 in
theorem unclosed_any (t : List UInt8) (w : World) (hl : t.length ≤ 140737488355328) :
    Calls Tryz.prog 182 #[.string (bs t)] w fun e w' => e = .returned (.string (bs (Lf.title t))) ∧ Below w.heap.size w w' := by
  have h1 := fun w => trimHash_any t w hl
  have htl : Lf.title t = if Lf.closed (Lf.unhash t) = true then Fn.back (Lf.unhash t) else t := rfl
  have hul := Lf.unhash_len t
  obtain ⟨u, hu⟩ : ∃ u, Lf.unhash t = u := ⟨_, rfl⟩
  rw [hu] at h1 htl hul
  have h2 := fun w => trimBack_any u w (by omega)
  clear hu
  cases hc : Lf.closed u with
  | true =>
    rw [hc, if_pos rfl] at htl
    rcases back_closed hc with rfl | hlt
    · have e0 := text_nil
      rw [htl]
      clear htl hc
      go_enter Tryz.func182, Tryz.ntmps182
      go_wp2_with fail
      refine (h1 _).mono ?_
      rintro e w1 ⟨rfl, hb1⟩
      go_wp2_with fail
      refine (h2 _).mono ?_
      rintro e w2 ⟨rfl, hb2⟩
      go_wp2_with fail
      go_ret
      exact ⟨rfl, ext_trans hb1 hb2⟩
    · have e0 : (bs u).toList.isEmpty = false := by
        rw [bs_toList]; cases u with
        | nil => simp at hlt
        | cons _ _ => rfl
      have e1 := text_diff (a := Fn.back u) (b := u) (by intro h; rw [h] at hlt; omega)
      rw [htl]
      clear htl hc
      obtain ⟨B, hB⟩ : ∃ B, Fn.back u = B := ⟨_, rfl⟩
      rw [hB] at h2 e1 ⊢
      clear hB hlt
      go_enter Tryz.func182, Tryz.ntmps182
      go_wp2_with fail
      refine (h1 _).mono ?_
      rintro e w1 ⟨rfl, hb1⟩
      go_wp2_with fail
      refine (h2 _).mono ?_
      rintro e w2 ⟨rfl, hb2⟩
      go_wp2_with fail
      go_ret
      exact ⟨rfl, ext_trans hb1 hb2⟩
  | false =>
    rw [hc, if_neg (by simp)] at htl
    obtain ⟨hne, hbk⟩ := back_open hc
    have e0 : (bs u).toList.isEmpty = false := by
      rw [bs_toList]; cases u with
      | nil => exact absurd rfl hne
      | cons _ _ => rfl
    rw [hbk] at h2
    rw [htl]
    clear htl hc hbk hne
    go_enter Tryz.func182, Tryz.ntmps182
    go_wp2_with fail
    refine (h1 _).mono ?_
    rintro e w1 ⟨rfl, hb1⟩
    go_wp2_with fail
    refine (h2 _).mono ?_
    rintro e w2 ⟨rfl, hb2⟩
    go_wp2_with fail
    go_ret
    exact ⟨rfl, ext_trans hb1 hb2⟩

/-- how far off an item's content is, and the content -/
def Lf.within (r : List UInt8) : Nat × List UInt8 := if Fn.emp r = true then (1, []) else (Lf.inner (Fn.cl r), Cl.strip (Lf.inner (Fn.cl r)) r)

set_option maxHeartbeats 2000000 in
set_option maxRecDepth 100000 in
theorem inside_any (r : List UInt8) (w : World) (hl : r.length + 3 ≤ 140737488355328) :
    Calls Tryz.prog 195 #[.string (bs r)] w fun e w' => e = .returned (.tuple #[.int .i64 ((Lf.within r).1 : Int), .string (bs (Lf.within r).2)]) ∧ Below w.heap.size w w' := by
  have he := fun w => empty_any r w (by omega)
  have hem : decide ((Cl.lead Cl.inf r 0).2 = r.length) = Fn.emp r := rfl
  rw [hem] at he
  clear hem
  have hw : Lf.within r = if Fn.emp r = true then (1, []) else (Lf.inner (Fn.cl r), Cl.strip (Lf.inner (Fn.cl r)) r) := rfl
  cases hE : Fn.emp r with
  | true =>
    rw [hE] at he
    rw [hE, if_pos rfl] at hw
    rw [hw]
    clear hw hE
    go_enter Tryz.func195, Tryz.ntmps195
    go_wp2_with fail
    refine (he _).mono ?_
    rintro e w1 ⟨rfl, rfl⟩
    go_wp2_with fail
    go_ret2
    exact ⟨rfl, Below.refl _ _⟩
  | false =>
    rw [hE] at he
    rw [hE, if_neg (by simp)] at hw
    rw [hw]
    clear hw hE
    have hin := fun w => indent_any r w (by omega)
    have hle := Cl.lead_le Cl.inf r 0
    have hcr : Fn.cl r = (Cl.lead Cl.inf r 0).1 := rfl
    rw [← hcr] at hin hle
    obtain ⟨n, hn⟩ : ∃ n, Fn.cl r = n := ⟨_, rfl⟩
    rw [hn] at hin hle ⊢
    clear hn hcr
    obtain ⟨K, hK⟩ : ∃ K, (Cl.lead Cl.inf r 0).2 = K := ⟨_, rfl⟩
    rw [hK] at hin hle
    clear hK
    have hst := fun w => strip_any r (Lf.inner n : Int) w (by omega)
    have hinn : (decide ((4 : Int) < (n : Int)) = true ∧ Lf.inner n = 1) ∨ (decide ((4 : Int) < (n : Int)) = false ∧ Lf.inner n = n) := by
      unfold Lf.inner
      by_cases h4 : 4 < n
      · exact .inl ⟨by simp; omega, if_pos h4⟩
      · exact .inr ⟨by simp; omega, if_neg h4⟩
    obtain ⟨m, hm⟩ : ∃ m, Lf.inner n = m := ⟨_, rfl⟩
    rw [hm] at hst hinn ⊢
    clear hm
    obtain ⟨S, hS⟩ : ∃ S, Cl.strip (m : Int) r = S := ⟨_, rfl⟩
    rw [hS] at hst ⊢
    clear hS
    rcases hinn with ⟨h4, rfl⟩ | ⟨h4, rfl⟩
    all_goals
      try rw [show ((1 : Nat) : Int) = 1 from rfl] at hst
      go_enter Tryz.func195, Tryz.ntmps195
      go_wp2_with fail
      refine (he _).mono ?_
      rintro e w1 ⟨rfl, rfl⟩
      go_wp2_with fail
      refine (hin _).mono ?_
      rintro e w1 ⟨rfl, rfl⟩
      go_wp2_with fail
      refine (hst _).mono ?_
      rintro e w2 ⟨rfl, hb2⟩
      go_wp2_with fail
      go_ret2
      exact ⟨rfl, hb2⟩
end Go.Proofs.YtmmgfoepfapnkaaGreatDoor

namespace Go.Proofs.YtmmgfoepfapnkaaGreatDoor
open Go.RowKit
attribute [local go_sem] canOp readsAs readUpon

theorem inner_form (l : List UInt8) (hl : l.length ≤ 140737488355328) : ∃ (C : Nat) (R : List UInt8), Fn.cl l = C ∧ Fn.rs l = R ∧ R.length ≤ l.length ∧ C ≤ 4 * l.length ∧ ∀ w, Calls Tryz.prog 179 #[.string (bs l)] w fun e w' => e = .returned (.tuple #[.int .i64 (C : Int), .string (bs R), .bool (decide ((C : Int) ≤ 3))]) ∧ Below w.heap.size w w' := by
  have hle := Cl.lead_le Cl.inf l 0
  have hcl : Fn.cl l = (Cl.lead Cl.inf l 0).1 := rfl
  refine ⟨_, _, rfl, rfl, ?_, by omega, fun w => pinner_any l w hl⟩
  unfold Fn.rs; rw [List.length_drop]; omega

theorem pbrk_no (l R : List UInt8) (w : World) (hn : Hid (Lf.brk l = false)) (b : Bool) (C : Int)
    (hin : ∀ w, Calls Tryz.prog 179 #[.string (bs l)] w fun e w' => e = .returned (.tuple #[.int .i64 C, .string (bs R), .bool b]) ∧ Below w.heap.size w w')
    (hb : b = false ∨ (b = true ∧ ∀ w, Calls Tryz.prog 183 #[.string (bs R), .string ⟨#[42, 45, 95]⟩] w fun e w' => e = .returned (.bool false) ∧ w = w')) :
    Calls Tryz.prog 153 #[.string (bs l)] w fun e w' => e = .returned (.bool (Lf.brk l)) ∧ Below w.heap.size w w' := by
  rcases hb with rfl | ⟨rfl, hbg⟩
  · go_enter Tryz.func153, Tryz.ntmps153
    go_wp2_with fail
    refine (hin _).mono ?_
    rintro e w1 ⟨rfl, hb1⟩
    go_wp2_with fail
    go_returns
    exact ⟨by rw [hn.out]; rfl, hb1⟩
  · go_enter Tryz.func153, Tryz.ntmps153
    go_wp2_with fail
    refine (hin _).mono ?_
    rintro e w1 ⟨rfl, hb1⟩
    go_wp2_with fail
    refine (hbg _).mono ?_
    rintro e w2 ⟨rfl, rfl⟩
    go_wp2_with fail
    go_returns
    exact ⟨by rw [hn.out]; rfl, hb1⟩

set_option maxHeartbeats 2000000 in
theorem pbrk_run (l R r : List UInt8) (c : UInt8) (w : World) (hR : R = c :: r) (hn : Hid (Lf.brk l = (R.all (Lf.along c) && decide (3 ≤ R.count c)))) (C : Int) (hl : R.length ≤ 140737488355328)
    (hin : ∀ w, Calls Tryz.prog 179 #[.string (bs l)] w fun e w' => e = .returned (.tuple #[.int .i64 C, .string (bs R), .bool true]) ∧ Below w.heap.size w w')
    (hbg : ∀ w, Calls Tryz.prog 183 #[.string (bs R), .string ⟨#[42, 45, 95]⟩] w fun e w' => e = .returned (.bool true) ∧ w = w') :
    Calls Tryz.prog 153 #[.string (bs l)] w fun e w' => e = .returned (.bool (Lf.brk l)) ∧ Below w.heap.size w w' := by
  have hsz := bs_size R
  have hx0 := run_byte (S := R) (i := 0) (by rw [hR]; simp)
  rw [show R[0]'(by rw [hR]; simp) = c from by subst hR; rfl, show ((0 : Nat) : Int) = 0 from rfl] at hx0
  clear hR
  go_enter Tryz.func153, Tryz.ntmps153
  go_wp2_with fail
  refine (hin _).mono ?_
  rintro e w1 ⟨rfl, hb1⟩
  replace hb1 := Lib.hid hb1
  go_wp2_with fail
  refine (hbg _).mono ?_
  rintro e w2 ⟨rfl, rfl⟩
  clear hin hbg
  go_wp2_with fail
  go_loop [6, 23] (fun u v => ∃ n k : Nat, k ≤ R.length ∧ n ≤ k ∧ u = .int .i64 (n : Int) ∧ v = .int .i64 (k : Int) ∧ Hid (Lf.brk l = ((R.drop k).all (Lf.along c) && decide (3 ≤ n + (R.drop k).count c)))) (fun _ v => R.length - (intOf v).toNat)
  case atStart => exact ⟨0, 0, by omega, by omega, rfl, rfl, Lib.hid (by rw [hn.out, Nat.zero_add, List.drop_zero])⟩
  case round =>
    obtain ⟨n, k, hk2, hnk, rfl, rfl, hf⟩ := hrel
    rcases Nat.lt_or_eq_of_le hk2 with hlt | rfl
    · have hx2 := run_byte hlt
      have ha := along_at (c := c) hlt
      have hcn := count_at (c := c) hlt
      obtain ⟨b, hb⟩ : ∃ b, R[k] = b := ⟨_, rfl⟩
      rw [hb] at hx2 ha hcn
      clear hb
      by_cases hbc : b = c
      · have he := byte_same hbc
        have hf2 : Hid (Lf.brk l = ((R.drop (k + 1)).all (Lf.along c) && decide (3 ≤ (n + 1) + (R.drop (k + 1)).count c))) := Lib.hid (by
          rw [hf.out, ha, hcn, if_pos hbc, show Lf.along c b = true from by simp [Lf.along, hbc], Bool.true_and, show n + (List.count c (R.drop (k + 1)) + 1) = n + 1 + List.count c (R.drop (k + 1)) from by omega])
        clear ha hcn hbc
        go_wp2_with fail
        go_round
        case rel => exact ⟨n + 1, k + 1, by omega, by omega, by go_num, by go_num, hf2⟩
        case measure => simp [intOf]; omega
      · have he := byte_diff hbc
        rcases gap_tests b with ⟨g1, g3⟩ | ⟨g1, g2, g3⟩ | ⟨g1, g2, g3⟩
        case inr.inr =>
          have hfin : Hid (Lf.brk l = false) := Lib.hid (by rw [hf.out, ha, show Lf.along c b = false from by simp [Lf.along, hbc, g3], Bool.false_and, Bool.false_and])
          clear ha hcn hbc
          go_wp2_with fail
          go_returns
          exact ⟨by rw [hfin.out]; rfl, hb1.out⟩
        all_goals
          have hf2 : Hid (Lf.brk l = ((R.drop (k + 1)).all (Lf.along c) && decide (3 ≤ n + (R.drop (k + 1)).count c))) := Lib.hid (by
            rw [hf.out, ha, hcn, if_neg hbc, show Lf.along c b = true from by simp [Lf.along, g3], Bool.true_and]; rfl)
          clear ha hcn hbc
          go_wp2_with fail
          go_round
          case rel => exact ⟨n, k + 1, by omega, by omega, rfl, by go_num, hf2⟩
          case measure => simp [intOf]; omega
    · have hfin : Hid (Lf.brk l = decide ((3 : Int) ≤ (n : Int))) := Lib.hid (by
        rw [hf.out, List.drop_length]
        simp only [List.all_nil, List.count_nil, Bool.true_and, Nat.add_zero]
        exact decide_eq_decide.2 (by omega))
      go_wp2_with fail
      go_returns
      exact ⟨by rw [hfin.out]; rfl, hb1.out⟩

theorem pbrk_any (l : List UInt8) (w : World) (hl : l.length + 100 ≤ 140737488355328) :
    Calls Tryz.prog 153 #[.string (bs l)] w fun e w' => e = .returned (.bool (Lf.brk l)) ∧ Below w.heap.size w w' := by
  obtain ⟨C, R, hC, hR, hRl, _, hin⟩ := inner_form l (by omega)
  have hbg := fun w => begins_rule R w
  by_cases h3 : C ≤ 3
  · rw [show decide ((C : Int) ≤ 3) = true from by simp; omega] at hin
    rcases R with _ | ⟨c, r⟩
    · exact pbrk_no l [] w (Lib.hid (Lf.brk_nil hR)) _ _ hin (.inr ⟨rfl, hbg⟩)
    · rw [beg_rule] at hbg
      have hb := Lf.brk_cons hR (by omega)
      cases hr : Lf.ruler c with
      | false =>
        rw [hr] at hbg hb
        exact pbrk_no l (c :: r) w (Lib.hid (by rw [hb]; rfl)) _ _ hin (.inr ⟨rfl, hbg⟩)
      | true =>
        rw [hr] at hbg hb
        exact pbrk_run l (c :: r) r c w rfl (Lib.hid (by rw [hb, Bool.true_and])) _ (by omega) hin hbg
  · rw [show decide ((C : Int) ≤ 3) = false from by simp; omega] at hin
    exact pbrk_no l R w (Lib.hid (Lf.brk_far (by omega))) _ _ hin (.inl rfl)

theorem pquote_any (l : List UInt8) (w : World) (hl : l.length + 100 ≤ 140737488355328) :
    Calls Tryz.prog 171 #[.string (bs l)] w fun e w' => e = .returned (quotev (Lf.quote l)) ∧ Below w.heap.size w w' := by
  obtain ⟨C, R, hC, hR, hRl, _, hin⟩ := inner_form l (by omega)
  have hbg := fun w => begins_quote R w
  by_cases h3 : C ≤ 3
  · rw [show decide ((C : Int) ≤ 3) = true from by simp; omega] at hin
    by_cases hq : ∃ r, R = 62 :: r
    · obtain ⟨r, rfl⟩ := hq
      rw [beg_quote, decide_eq_true rfl] at hbg
      have hsz : (bs (62 :: r)).size = r.length + 1 := bs_size _
      have hsl := run_from (S := 62 :: r) (i := 1) (by simp)
      rw [List.drop_succ_cons, List.drop_zero, show ((1 : Nat) : Int) = 1 from rfl] at hsl
      have hst := fun w => strip_any r 1 w (by rw [List.length_cons] at hRl; omega)
      have hn := Lib.hid (quote_yes hR ⟨by omega, rfl⟩)
      obtain ⟨S, hS⟩ : ∃ S, Cl.strip 1 r = S := ⟨_, rfl⟩
      rw [hS] at hst hn
      clear hS hR hC
      go_enter Tryz.func171, Tryz.ntmps171
      go_wp2_with fail
      refine (hin _).mono ?_
      rintro e w1 ⟨rfl, hb1⟩
      go_wp2_with fail
      refine (hbg _).mono ?_
      rintro e w2 ⟨rfl, rfl⟩
      go_wp2_with fail
      refine (hst _).mono ?_
      rintro e w2 ⟨rfl, hb2⟩
      go_wp2_with fail
      go_ret2
      exact ⟨by rw [hn.out]; rfl, ext_trans hb1 hb2⟩
    · have hn : Hid (Lf.quote l = none) ∧ Lf.beg [62] R = false := by
        rcases R with _ | ⟨c, r⟩
        · exact ⟨Lib.hid (quote_nil hR), rfl⟩
        · have hc : c ≠ 62 := fun h => hq ⟨r, by rw [h]⟩
          exact ⟨Lib.hid (quote_no hR (fun h => hc h.2)), by rw [beg_quote, decide_eq_false hc]⟩
      rw [hn.2] at hbg
      replace hn := hn.1
      clear hR hC hq
      go_enter Tryz.func171, Tryz.ntmps171
      go_wp2_with fail
      refine (hin _).mono ?_
      rintro e w1 ⟨rfl, hb1⟩
      go_wp2_with fail
      refine (hbg _).mono ?_
      rintro e w2 ⟨rfl, rfl⟩
      go_wp2_with fail
      go_ret2
      exact ⟨by rw [hn.out]; rfl, hb1⟩
  · rw [show decide ((C : Int) ≤ 3) = false from by simp; omega] at hin
    have hn : Hid (Lf.quote l = none) := by
      rcases R with _ | ⟨c, r⟩
      · exact Lib.hid (quote_nil hR)
      · exact Lib.hid (quote_no hR (fun h => h3 (by omega)))
    clear hR hC
    go_enter Tryz.func171, Tryz.ntmps171
    go_wp2_with fail
    refine (hin _).mono ?_
    rintro e w1 ⟨rfl, hb1⟩
    go_wp2_with fail
    go_ret2
    exact ⟨by rw [hn.out]; rfl, hb1⟩

theorem phead_no (l R : List UInt8) (n : Nat) (w : World) (hn : Hid (Lf.heading l = none)) (b : Bool) (C : Int) (hnR : n ≤ R.length)
    (hin : ∀ w, Calls Tryz.prog 179 #[.string (bs l)] w fun e w' => e = .returned (.tuple #[.int .i64 C, .string (bs R), .bool b]) ∧ Below w.heap.size w w')
    (hrun : ∀ w, Calls Tryz.prog 180 #[.string (bs R), .int .u8 35] w fun e w' => e = .returned (.int .i64 (n : Int)) ∧ w = w')
    (hb : b = false ∨ (b = true ∧ n < 1) ∨ (b = true ∧ 1 ≤ n ∧ 6 < n) ∨ (b = true ∧ 1 ≤ n ∧ n ≤ 6 ∧ ∀ w, Calls Tryz.prog 181 #[.string (bs (R.drop n))] w fun e w' => e = .returned (.bool false) ∧ w = w')) :
    Calls Tryz.prog 150 #[.string (bs l)] w fun e w' => e = .returned (headv (Lf.heading l)) ∧ Below w.heap.size w w' := by
  have hsz := bs_size R
  have hsl := run_from (S := R) (i := n) hnR
  rcases hb with rfl | ⟨rfl, h1⟩ | ⟨rfl, h1, h2⟩ | ⟨rfl, h1, h2, hap⟩
  · go_enter Tryz.func150, Tryz.ntmps150
    go_wp2_with fail
    refine (hin _).mono ?_
    rintro e w1 ⟨rfl, hb1⟩
    go_wp2_with fail
    refine (hrun _).mono ?_
    rintro e w2 ⟨rfl, rfl⟩
    go_wp2_with fail
    go_ret3
    exact ⟨by rw [hn.out]; rfl, hb1⟩
  · have d1 : decide ((n : Int) < 1) = true := by simp; omega
    go_enter Tryz.func150, Tryz.ntmps150
    go_wp2_with fail
    refine (hin _).mono ?_
    rintro e w1 ⟨rfl, hb1⟩
    go_wp2_with fail
    refine (hrun _).mono ?_
    rintro e w2 ⟨rfl, rfl⟩
    go_wp2_with fail
    go_ret3
    exact ⟨by rw [hn.out]; rfl, hb1⟩
  · have d1 : decide ((n : Int) < 1) = false := by simp; omega
    have d2 : decide ((6 : Int) < (n : Int)) = true := by simp; omega
    go_enter Tryz.func150, Tryz.ntmps150
    go_wp2_with fail
    refine (hin _).mono ?_
    rintro e w1 ⟨rfl, hb1⟩
    go_wp2_with fail
    refine (hrun _).mono ?_
    rintro e w2 ⟨rfl, rfl⟩
    go_wp2_with fail
    go_ret3
    exact ⟨by rw [hn.out]; rfl, hb1⟩
  · have d1 : decide ((n : Int) < 1) = false := by simp; omega
    have d2 : decide ((6 : Int) < (n : Int)) = false := by simp; omega
    go_enter Tryz.func150, Tryz.ntmps150
    go_wp2_with fail
    refine (hin _).mono ?_
    rintro e w1 ⟨rfl, hb1⟩
    go_wp2_with fail
    refine (hrun _).mono ?_
    rintro e w2 ⟨rfl, rfl⟩
    go_wp2_with fail
    refine (hap _).mono ?_
    rintro e w2 ⟨rfl, rfl⟩
    go_wp2_with fail
    go_ret3
    exact ⟨by rw [hn.out]; rfl, hb1⟩

theorem phead_yes (l R X t T : List UInt8) (n : Nat) (w : World) (hn : Hid (Lf.heading l = some (n, T))) (C : Int) (hnR : n ≤ R.length)
    (hin : ∀ w, Calls Tryz.prog 179 #[.string (bs l)] w fun e w' => e = .returned (.tuple #[.int .i64 C, .string (bs R), .bool true]) ∧ Below w.heap.size w w')
    (hrun : ∀ w, Calls Tryz.prog 180 #[.string (bs R), .int .u8 35] w fun e w' => e = .returned (.int .i64 (n : Int)) ∧ w = w')
    (h1 : 1 ≤ n) (h2 : n ≤ 6) (hX : R.drop n = X)
    (hap : ∀ w, Calls Tryz.prog 181 #[.string (bs X)] w fun e w' => e = .returned (.bool true) ∧ w = w')
    (htr : ∀ w, Calls Tryz.prog 154 #[.string (bs X), .string ⟨#[32, 9]⟩] w fun e w' => e = .returned (.string (bs t)) ∧ Below w.heap.size w w')
    (hun : ∀ w, Calls Tryz.prog 182 #[.string (bs t)] w fun e w' => e = .returned (.string (bs T)) ∧ Below w.heap.size w w')
    (hcl : ∀ w, Calls Tryz.prog 59 #[.string (bs T)] w fun e w' => e = .returned (.string (bs T)) ∧ Below w.heap.size w w') :
    Calls Tryz.prog 150 #[.string (bs l)] w fun e w' => e = .returned (headv (Lf.heading l)) ∧ Below w.heap.size w w' := by
  have hsz := bs_size R
  have hsl := run_from (S := R) (i := n) hnR
  rw [hX] at hsl
  have d1 : decide ((n : Int) < 1) = false := by simp; omega
  have d2 : decide ((6 : Int) < (n : Int)) = false := by simp; omega
  clear hX
  go_enter Tryz.func150, Tryz.ntmps150
  go_wp2_with fail
  refine (hin _).mono ?_
  rintro e w1 ⟨rfl, hb1⟩
  go_wp2_with fail
  refine (hrun _).mono ?_
  rintro e w2 ⟨rfl, rfl⟩
  go_wp2_with fail
  refine (hap _).mono ?_
  rintro e w2 ⟨rfl, rfl⟩
  replace hb1 := Lib.hid hb1
  go_wp2_with fail
  refine (htr _).mono ?_
  rintro e w3 ⟨rfl, hb3⟩
  replace hb3 := Lib.hid (ext_trans hb1.out hb3)
  go_wp2_with fail
  refine (hun _).mono ?_
  rintro e w4 ⟨rfl, hb4⟩
  replace hb4 := Lib.hid (ext_trans hb3.out hb4)
  go_wp2_with fail
  refine (hcl _).mono ?_
  rintro e w5 ⟨rfl, hb5⟩
  replace hb5 := Lib.hid (ext_trans hb4.out hb5)
  go_wp2_with fail
  go_ret3
  exact ⟨by rw [hn.out]; rfl, hb5.out⟩

theorem phead_any (l : List UInt8) (w : World) (hl : l.length + 100 ≤ 140737488355328) :
    Calls Tryz.prog 150 #[.string (bs l)] w fun e w' => e = .returned (headv (Lf.heading l)) ∧ Below w.heap.size w w' := by
  obtain ⟨C, R, hC, hR, hRl, _, hin⟩ := inner_form l (by omega)
  have hrun := fun w => prun_hash R w (by omega)
  have hrl := Fn.run_le 35 R
  have hno := @head_no l
  have hye := @head_yes l
  rw [hC, hR] at hno hye
  obtain ⟨n, hn⟩ : ∃ n, Fn.run 35 R = n := ⟨_, rfl⟩
  rw [hn] at hrun hrl hno hye
  by_cases h3 : C ≤ 3
  · rw [show decide ((C : Int) ≤ 3) = true from by simp; omega] at hin
    by_cases h1 : 1 ≤ n
    · by_cases h2 : n ≤ 6
      · have hap := fun w => apart_any (R.drop n) w
        cases hs : Lf.stop (R.drop n) with
        | true =>
          rw [hs] at hap
          have hXl : (R.drop n).length ≤ R.length := by rw [List.length_drop]; omega
          have h := hye ⟨h3, h1, h2, hs⟩
          obtain ⟨X, hX⟩ : ∃ X, R.drop n = X := ⟨_, rfl⟩
          rw [hX] at h hap hXl
          have htl := Fn.trim_len X
          have hTl := Lf.title_len (Fn.trim X)
          exact phead_yes l R X (Fn.trim X) (Lf.title (Fn.trim X)) n w (Lib.hid h) _ hrl hin hrun h1 h2 hX hap (fun w => trim_any X w (by omega)) (fun w => unclosed_any _ w (by omega)) (fun w => clone_any _ w (by omega))
        | false =>
          rw [hs] at hap
          exact phead_no l R n w (Lib.hid (hno (fun h => by rw [hs] at h; cases h.2.2.2))) _ _ hrl hin hrun (.inr (.inr (.inr ⟨rfl, h1, h2, hap⟩)))
      · exact phead_no l R n w (Lib.hid (hno (fun h => h2 h.2.2.1))) _ _ hrl hin hrun (.inr (.inr (.inl ⟨rfl, h1, by omega⟩)))
    · exact phead_no l R n w (Lib.hid (hno (fun h => h1 h.2.1))) _ _ hrl hin hrun (.inr (.inl ⟨rfl, by omega⟩))
  · rw [show decide ((C : Int) ≤ 3) = false from by simp; omega] at hin
    exact phead_no l R n w (Lib.hid (hno (fun h => h3 h.1))) _ _ hrl hin hrun (.inl rfl)

theorem pitem_no (l R : List UInt8) (w : World) (hn : Hid (Lf.item l = none)) (b : Bool) (C : Int)
    (hin : ∀ w, Calls Tryz.prog 179 #[.string (bs l)] w fun e w' => e = .returned (.tuple #[.int .i64 C, .string (bs R), .bool b]) ∧ Below w.heap.size w w')
    (hb : b = false ∨ (b = true ∧ ∀ w, Calls Tryz.prog 183 #[.string (bs R), .string ⟨#[42, 45, 43]⟩] w fun e w' => e = .returned (.bool false) ∧ w = w')) :
    Calls Tryz.prog 178 #[.string (bs l)] w fun e w' => e = .returned (itemv (Lf.item l)) ∧ Below w.heap.size w w' := by
  rcases hb with rfl | ⟨rfl, hbg⟩
  · go_enter Tryz.func178, Tryz.ntmps178
    go_wp2_with fail
    refine (hin _).mono ?_
    rintro e w1 ⟨rfl, hb1⟩
    go_wp2_with fail
    go_returns
    exact ⟨by rw [hn.out]; rfl, hb1⟩
  · go_enter Tryz.func178, Tryz.ntmps178
    go_wp2_with fail
    refine (hin _).mono ?_
    rintro e w1 ⟨rfl, hb1⟩
    go_wp2_with fail
    refine (hbg _).mono ?_
    rintro e w2 ⟨rfl, rfl⟩
    go_wp2_with fail
    go_returns
    exact ⟨by rw [hn.out]; rfl, hb1⟩

theorem pitem_off (l r : List UInt8) (c : UInt8) (w : World) (hn : Hid (Lf.item l = none)) (C : Int)
    (hin : ∀ w, Calls Tryz.prog 179 #[.string (bs l)] w fun e w' => e = .returned (.tuple #[.int .i64 C, .string (bs (c :: r)), .bool true]) ∧ Below w.heap.size w w')
    (hbg : ∀ w, Calls Tryz.prog 183 #[.string (bs (c :: r)), .string ⟨#[42, 45, 43]⟩] w fun e w' => e = .returned (.bool true) ∧ w = w')
    (s : Bool) (hap : ∀ w, Calls Tryz.prog 181 #[.string (bs r)] w fun e w' => e = .returned (.bool s) ∧ w = w')
    (hb : s = false ∨ (s = true ∧ ∀ w, Calls Tryz.prog 153 #[.string (bs l)] w fun e w' => e = .returned (.bool true) ∧ Below w.heap.size w w')) :
    Calls Tryz.prog 178 #[.string (bs l)] w fun e w' => e = .returned (itemv (Lf.item l)) ∧ Below w.heap.size w w' := by
  have hsz : (bs (c :: r)).size = r.length + 1 := bs_size _
  have hsl := run_from (S := c :: r) (i := 1) (by simp)
  rw [List.drop_succ_cons, List.drop_zero, show ((1 : Nat) : Int) = 1 from rfl] at hsl
  rcases hb with rfl | ⟨rfl, hbk⟩
  · go_enter Tryz.func178, Tryz.ntmps178
    go_wp2_with fail
    refine (hin _).mono ?_
    rintro e w1 ⟨rfl, hb1⟩
    go_wp2_with fail
    refine (hbg _).mono ?_
    rintro e w2 ⟨rfl, rfl⟩
    go_wp2_with fail
    refine (hap _).mono ?_
    rintro e w2 ⟨rfl, rfl⟩
    go_wp2_with fail
    go_returns
    exact ⟨by rw [hn.out]; rfl, hb1⟩
  · go_enter Tryz.func178, Tryz.ntmps178
    go_wp2_with fail
    refine (hin _).mono ?_
    rintro e w1 ⟨rfl, hb1⟩
    go_wp2_with fail
    refine (hbg _).mono ?_
    rintro e w2 ⟨rfl, rfl⟩
    go_wp2_with fail
    refine (hap _).mono ?_
    rintro e w2 ⟨rfl, rfl⟩
    go_wp2_with fail
    refine (hbk _).mono ?_
    rintro e w3 ⟨rfl, hb3⟩
    go_wp2_with fail
    go_returns
    exact ⟨by rw [hn.out]; rfl, ext_trans hb1 hb3⟩

theorem item_within {l r : List UInt8} {c : UInt8} (h : Fn.rs l = c :: r) (h1 : Fn.cl l ≤ 3 ∧ Lf.bullet c = true ∧ Lf.brk l = false ∧ Lf.stop r = true) : Lf.item l = some (c, Fn.cl l + 1 + (Lf.within r).1, (Lf.within r).2) := by
  unfold Lf.within
  cases hE : Fn.emp r with
  | true => rw [item_emp h h1 hE]; rfl
  | false => rw [item_yes h h1 hE]; rfl

set_option maxHeartbeats 2000000 in
theorem pitem_yes (l r S : List UInt8) (c : UInt8) (g C : Nat) (w : World) (hn : Hid (Lf.item l = some (c, C + 1 + g, S))) (hC : C ≤ 3) (hg : g ≤ 4)
    (hin : ∀ w, Calls Tryz.prog 179 #[.string (bs l)] w fun e w' => e = .returned (.tuple #[.int .i64 (C : Int), .string (bs (c :: r)), .bool true]) ∧ Below w.heap.size w w')
    (hbg : ∀ w, Calls Tryz.prog 183 #[.string (bs (c :: r)), .string ⟨#[42, 45, 43]⟩] w fun e w' => e = .returned (.bool true) ∧ w = w')
    (hap : ∀ w, Calls Tryz.prog 181 #[.string (bs r)] w fun e w' => e = .returned (.bool true) ∧ w = w')
    (hbk : ∀ w, Calls Tryz.prog 153 #[.string (bs l)] w fun e w' => e = .returned (.bool false) ∧ Below w.heap.size w w')
    (hid : ∀ w, Calls Tryz.prog 195 #[.string (bs r)] w fun e w' => e = .returned (.tuple #[.int .i64 (g : Int), .string (bs S)]) ∧ Below w.heap.size w w') :
    Calls Tryz.prog 178 #[.string (bs l)] w fun e w' => e = .returned (itemv (Lf.item l)) ∧ Below w.heap.size w w' := by
  have hsz : (bs (c :: r)).size = r.length + 1 := bs_size _
  have hsl := run_from (S := c :: r) (i := 1) (by simp)
  rw [List.drop_succ_cons, List.drop_zero, show ((1 : Nat) : Int) = 1 from rfl] at hsl
  have hx0 := run_byte (S := c :: r) (i := 0) (by simp)
  rw [List.getElem_cons_zero, show ((0 : Nat) : Int) = 0 from rfl] at hx0
  go_enter Tryz.func178, Tryz.ntmps178
  go_wp2_with fail
  refine (hin _).mono ?_
  rintro e w1 ⟨rfl, hb1⟩
  go_wp2_with fail
  refine (hbg _).mono ?_
  rintro e w2 ⟨rfl, rfl⟩
  go_wp2_with fail
  refine (hap _).mono ?_
  rintro e w2 ⟨rfl, rfl⟩
  go_wp2_with fail
  refine (hbk _).mono ?_
  rintro e w3 ⟨rfl, hb3⟩
  replace hb3 := Lib.hid (ext_trans hb1 hb3)
  clear hb1
  go_wp2_with fail
  refine (hid _).mono ?_
  rintro e w4 ⟨rfl, hb4⟩
  replace hb4 := Lib.hid (ext_trans hb3.out hb4)
  clear hb3 hin hbg hap hbk hid hsl
  go_wp2_with fail
  go_returns
  exact ⟨by rw [hn.out]; rfl, hb4.out⟩

theorem pitem_any (l : List UInt8) (w : World) (hl : l.length + 100 ≤ 140737488355328) :
    Calls Tryz.prog 178 #[.string (bs l)] w fun e w' => e = .returned (itemv (Lf.item l)) ∧ Below w.heap.size w w' := by
  obtain ⟨C, R, hC, hR, hRl, _, hin⟩ := inner_form l (by omega)
  have hbg := fun w => begins_item R w
  by_cases h3 : C ≤ 3
  · rw [show decide ((C : Int) ≤ 3) = true from by simp; omega] at hin
    rcases R with _ | ⟨c, r⟩
    · exact pitem_no l [] w (Lib.hid (item_nil hR)) _ _ hin (.inr ⟨rfl, hbg⟩)
    · rw [beg_item] at hbg
      rw [List.length_cons] at hRl
      cases hbu : Lf.bullet c with
      | false =>
        rw [hbu] at hbg
        exact pitem_no l (c :: r) w (Lib.hid (item_no hR (fun h => by rw [hbu] at h; cases h.2.1))) _ _ hin (.inr ⟨rfl, hbg⟩)
      | true =>
        rw [hbu] at hbg
        have hap := fun w => apart_any r w
        have hbk := fun w => pbrk_any l w hl
        cases hs : Lf.stop r with
        | false =>
          rw [hs] at hap
          exact pitem_off l r c w (Lib.hid (item_no hR (fun h => by rw [hs] at h; cases h.2.2.2))) _ hin hbg false hap (.inl rfl)
        | true =>
          rw [hs] at hap
          cases hb : Lf.brk l with
          | true =>
            rw [hb] at hbk
            exact pitem_off l r c w (Lib.hid (item_no hR (fun h => by rw [hb] at h; cases h.2.2.1))) _ hin hbg true hap (.inr ⟨rfl, hbk⟩)
          | false =>
            rw [hb] at hbk
            have hn := item_within hR ⟨by omega, hbu, hb, hs⟩
            rw [hC] at hn
            have hg : (Lf.within r).1 ≤ 4 := by
              unfold Lf.within
              split
              · simp
              · simp only [Lf.inner]; split <;> omega
            exact pitem_yes l r _ c _ C w (Lib.hid hn) h3 hg hin hbg hap hbk (fun w => inside_any r w (by omega))
  · rw [show decide ((C : Int) ≤ 3) = false from by simp; omega] at hin
    have hn : Hid (Lf.item l = none) := by
      rcases R with _ | ⟨c, r⟩
      · exact Lib.hid (item_nil hR)
      · exact Lib.hid (item_no hR (fun h => h3 (by omega)))
    exact pitem_no l R w hn _ _ hin (.inl rfl)
end Go.Proofs.YtmmgfoepfapnkaaGreatDoor
