/- Package link: a sign at a place, a scheme. Package link: Auto. Package link: Close. Package link: Dest. Package link: Safe. Package link: one contract for each function. Package inline's brackets: where the code or the Auto ends that begins at a place. Where the code or the Auto at a place ends is where the document's own search goes on. -/
import Derived.Test.YtkfhkfagmokjpaaGreatDoorMp19
import Derived.Test.YtkfhkfagmokjpaaGreatDoorMp23
import Derived.Test.YtkfhkfagmokjpaaGreatDoorMp06
import Derived.Test.YtkfhkfagmokjpaaGreatDoorMp04
import Derived.Test.YtkfhkfagmokjpaaGreatDoorMp11
namespace Go.Proofs.YtkfhkfagmokjpaaGreatDoor
open Go.RowKit

/-! ### a sign at a place -/
def stand (l : List UInt8) (at_ : Int) (c : UInt8) : Bool := decide (0 ≤ at_ ∧ at_.toNat < l.length ∧ l.getD at_.toNat 0 = c)
theorem stand_neg {l : List UInt8} {at_ : Int} {c : UInt8} (h : at_ < 0) : stand l at_ c = false := by unfold stand; exact decide_eq_false (by omega)
theorem stand_out {l : List UInt8} {at_ : Int} {c : UInt8} (h : (l.length : Int) ≤ at_) : stand l at_ c = false := by unfold stand; exact decide_eq_false (by omega)
theorem stand_in {l : List UInt8} {at_ : Int} {c : UInt8} (h0 : 0 ≤ at_) (h : at_.toNat < l.length) : stand l at_ c = (l[at_.toNat] == c) := by
  unfold stand
  have e : l.getD at_.toNat 0 = l[at_.toNat] := by rw [List.getD_eq_getElem?_getD, List.getElem?_eq_getElem h]; rfl
  rw [Bool.eq_iff_iff, decide_eq_true_iff, beq_iff_eq, e]
  exact ⟨fun x => x.2.2, fun x => ⟨h0, h, x⟩⟩
theorem stand_yes {l : List UInt8} {at_ : Int} {c : UInt8} (h : stand l at_ c = true) : ∃ k : Nat, at_ = (k : Int) ∧ ∃ hk : k < l.length, l[k] = c := by
  unfold stand at h
  obtain ⟨h0, h1, h2⟩ := of_decide_eq_true h
  refine ⟨at_.toNat, by omega, h1, ?_⟩
  rw [List.getD_eq_getElem?_getD, List.getElem?_eq_getElem h1] at h2
  exact h2

set_option maxHeartbeats 1000000 in
set_option maxRecDepth 100000 in
theorem stands_any (l : List UInt8) (at_ : Int) (c : UInt8) (v : Int) (hv : v = (c.toNat : Int)) (_hs : l.length ≤ 1000000000) (w : World) :
    Calls Tryz.prog 77 #[.string (bs l), .int .i64 at_, .int .u8 v] w fun e w' => e = .returned (.bool (stand l at_ c)) ∧ w = w' := by
  have hsz := bs_size l
  by_cases h : at_ < 0
  · rw [stand_neg h]
    go_enter Tryz.func77, Tryz.ntmps77
    go_wp2
    go_ret
    exact ⟨rfl, rfl⟩
  · by_cases h2 : (l.length : Int) ≤ at_
    · rw [stand_out h2]
      go_enter Tryz.func77, Tryz.ntmps77
      go_wp2
      go_ret
      exact ⟨rfl, rfl⟩
    · have hk : at_.toNat < l.length := by omega
      rw [stand_in (by omega) hk]
      have hix := run_byte_at (i := at_.toNat) (v := at_) (S := l) hk (by omega) w
      have hbe : ((l[at_.toNat].toNat : Int) == v) = (l[at_.toNat] == c) := by
        subst hv
        rw [Bool.eq_iff_iff, beq_iff_eq, beq_iff_eq]
        exact ⟨fun h => UInt8.toNat_inj.1 (by omega), fun h => by rw [h]⟩
      obtain ⟨V, hV⟩ : ∃ V, V = (l[at_.toNat] == c) := ⟨_, rfl⟩
      rw [← hV] at hbe ⊢
      clear hV hv
      go_enter Tryz.func77, Tryz.ntmps77
      go_wp2
      go_ret
      exact ⟨rfl, rfl⟩

set_option maxRecDepth 100000 in
theorem lsmall_any (r : Int) (w : World) :
    Calls Tryz.prog 91 #[.int .i32 r] w fun e w' => e = .returned (.bool (decide (97 ≤ r ∧ r ≤ 122))) ∧ w = w' := by
  go_enter Tryz.func91, Tryz.ntmps91
  go_wp2
  all_goals go_ret
  all_goals (refine ⟨ret_bool ?_, rfl⟩; rw [Bool.eq_iff_iff]; simp; omega)

/-! ### a scheme -/
def schemeOk (l : List UInt8) : Bool := decide (2 ≤ Lk.letters l ∧ Lk.letters l ≤ 12 ∧ l.getD (Lk.letters l) 0 = 58)
theorem getD_at {l : List UInt8} {i : Nat} (h : i < l.length) : l.getD i 0 = l[i] := by rw [List.getD_eq_getElem?_getD, List.getElem?_eq_getElem h]; rfl
theorem getD_out {l : List UInt8} {i : Nat} (h : ¬ i < l.length) : l.getD i 0 = 0 := by rw [List.getD_eq_getElem?_getD, List.getElem?_eq_none (by omega)]; rfl

set_option maxHeartbeats 4000000 in
set_option maxRecDepth 100000 in
theorem scheme_any (l : List UInt8) (w : World) (hs : l.length ≤ 1000000000) :
    Calls Tryz.prog 78 #[.string (bs l)] w fun e w' => (∃ m : Nat, e = .returned (.tuple #[.int .i64 (m : Int), .bool (schemeOk l)]) ∧ (schemeOk l = true → m = Lk.letters l + 1)) ∧ Below w.heap.size w w' := by
  have hsz := bs_size l
  obtain ⟨R, hR⟩ : ∃ R, R = schemeOk l := ⟨_, rfl⟩
  obtain ⟨n, hn⟩ : ∃ n, n = Lk.letters l := ⟨_, rfl⟩
  have hR2 : Hid (R = decide (2 ≤ n ∧ n ≤ 12 ∧ l.getD n 0 = 58)) := Lib.hid (by rw [hR, hn]; rfl)
  rw [← hR, ← hn]
  replace hn := Lib.hid hn
  clear hR
  go_enter Tryz.func78, Tryz.ntmps78
  go_wp2
  go_loopw [] (fun wr => ∃ pos : Nat, pos ≤ l.length ∧ pos ≤ 12 ∧ Hid (wr.heap[w.heap.size]? = some (.stringIter (bs l) pos)) ∧ Hid (pos + Lk.letters (l.drop pos) = n) ∧ Below w.heap.size w wr)
    (fun wr => l.length - wr.iterPos w.heap.size)
  case atStart => exact ⟨0, by omega, by omega, Lib.hid (iter_new _ _ _ rfl), Lib.hid (by rw [hn.out]; simp), ext_alloc _ _⟩
  case round =>
    obtain ⟨pos, hp1, hp12, hit, hf, hb⟩ := hrel
    by_cases hp : pos < l.length
    · obtain ⟨x, k, hk, hkl, hd, hvx, hdL, hc⟩ := first_rune hp
      have hnx := run_next_rune hit.out hp hd
      have hit2 := Lib.hid (Lib.iterAt_heap wr w.heap.size (bs l) pos (pos + k) hit.out)
      have hb2 := Lib.below_iterAt hb (k := w.heap.size) (Nat.le_refl _) (bs l) (pos + k)
      have hpos : Hid (wr.iterPos w.heap.size = pos) := Lib.hid (by simp only [World.iterPos, hit.out])
      have hpos2 : Hid ((wr.iterAt w.heap.size (bs l) (pos + k)).iterPos w.heap.size = pos + k) := Lib.hid (by simp only [World.iterPos, hit2.out])
      replace hd := Lib.hid hd
      replace hdL := Lib.hid hdL
      by_cases h58 : x = 58
      · have hl58 : l[pos] = 58 := by
          rcases hc with ⟨_, h2, _⟩ | ⟨_, h2, _⟩
          · exact UInt8.toNat_inj.1 (by rw [← h2, h58]; rfl)
          · omega
        have hpn : pos = n := by have := hf.out; rw [Lk.letters_no hp (by rw [hl58]; decide)] at this; omega
        have hres : Hid (R = decide ((2 : Int) ≤ (pos : Int))) := Lib.hid (by
          rw [hR2.out, ← hpn, getD_at hp, hl58, Bool.eq_iff_iff, decide_eq_true_iff, decide_eq_true_iff]
          exact ⟨fun h => by omega, fun h => ⟨by omega, hp12, rfl⟩⟩)
        replace hpn := Lib.hid hpn
        have t : ((x : Int) == 58) = true := by simp [h58]
        replace h58 := Lib.hid h58
        replace hl58 := Lib.hid hl58
        replace hc := Lib.hid hc
        go_wp2
        go_ret2
        exact ⟨⟨pos + 1, by rw [hres.out]; rfl, fun _ => by have := hpn.out; omega⟩, hb2⟩
      · have t : ((x : Int) == 58) = false := by rw [beq_eq_false_iff_ne]; omega
        by_cases hsm : 97 ≤ x ∧ x ≤ 122
        · have hq : x = l[pos].toNat ∧ k = 1 := by
            rcases hc with ⟨_, h2, h3⟩ | ⟨_, h2, _⟩
            · exact ⟨h2, h3⟩
            · omega
          have hls : Lk.small l[pos] = true := (Lk.small_iff _).2 (by omega)
          have hf2 : Hid (pos + 1 + Lk.letters (l.drop (pos + 1)) = n) := Lib.hid (by have := hf.out; rw [Lk.letters_at hp hls] at this; omega)
          have hk1 : k = 1 := hq.2
          clear hq hls hc
          subst hk1
          have hds : (decide (97 ≤ (x : Int) ∧ (x : Int) ≤ 122)) = true := decide_eq_true (by omega)
          by_cases h12 : pos = 12
          · have hres : R = false := by
              rw [hR2.out]; refine decide_eq_false ?_
              have := hf2.out
              omega
            have hge : 12 ≤ pos := by omega
            subst hres
            replace h12 := Lib.hid h12
            replace hsm := Lib.hid hsm
            go_wp2_with (go_at_call 91; refine (lsmall_any _ _).mono ?_; rintro e w1 ⟨rfl, rfl⟩; rw [hds])
            go_ret2
            exact ⟨⟨0, rfl, fun h => by cases h⟩, hb2⟩
          · have hlt : pos < 12 := by omega
            replace h12 := Lib.hid h12
            replace hsm := Lib.hid hsm
            go_wp2_with (go_at_call 91; refine (lsmall_any _ _).mono ?_; rintro e w1 ⟨rfl, rfl⟩; rw [hds])
            go_roundw
            case rel => exact ⟨pos + 1, by omega, by omega, hit2, hf2, hb2⟩
            case measure => rw [hpos.out, hpos2.out]; omega
        · have hds : (decide (97 ≤ (x : Int) ∧ (x : Int) ≤ 122)) = false := decide_eq_false (by omega)
          have hls : Lk.small l[pos] = false := by
            rw [← Bool.not_eq_true, Lk.small_iff]
            rcases hc with ⟨_, h2, _⟩ | ⟨h2, _, _⟩ <;> omega
          have hpn : pos = n := by have := hf.out; rw [Lk.letters_no hp hls] at this; omega
          have hl58 : l[pos] ≠ 58 := by
            intro he
            rw [he] at hc
            rcases hc with ⟨_, h2, _⟩ | ⟨h2, _, _⟩
            · exact h58 h2
            · exact absurd h2 (by decide)
          have hres : R = false := by
            rw [hR2.out, ← hpn, getD_at hp]; exact decide_eq_false fun h => hl58 h.2.2
          subst hres
          clear hpn hls hl58 hc
          replace hsm := Lib.hid hsm
          replace h58 := Lib.hid h58
          go_wp2_with (go_at_call 91; refine (lsmall_any _ _).mono ?_; rintro e w1 ⟨rfl, rfl⟩; rw [hds])
          go_ret2
          exact ⟨⟨0, rfl, fun h => by cases h⟩, hb2⟩
    · have hnx := run_next_done hit.out hp
      have hpn : pos = n := by have := hf.out; rw [Lk.letters_end hp] at this; omega
      have hres : R = false := by
        rw [hR2.out, ← hpn, getD_out hp]; exact decide_eq_false fun h => absurd h.2.2 (by decide)
      subst hres
      clear hpn
      go_wp2
      go_ret2
      exact ⟨⟨0, rfl, fun h => by cases h⟩, hb⟩
end Go.Proofs.YtkfhkfagmokjpaaGreatDoor

namespace Go.Proofs.YtkfhkfagmokjpaaGreatDoor
open Go.RowKit

theorem starts_scheme {l : List UInt8} {k : Nat} (hk : k < l.length) (h60 : l[k] = 60) : Lk.starts l k = schemeOk (l.drop (k + 1)) := by
  unfold Lk.starts schemeOk
  have e : (l.drop (k + 1)).getD (Lk.letters (l.drop (k + 1))) 0 = l.getD (k + 1 + Lk.letters (l.drop (k + 1))) 0 := by
    rw [List.getD_eq_getElem?_getD, List.getD_eq_getElem?_getD, List.getElem?_drop]
  rw [Bool.eq_iff_iff, decide_eq_true_iff, decide_eq_true_iff, e, getD_at hk]
  exact ⟨fun h => h.2.2, fun h => ⟨hk, h60, h⟩⟩
theorem ends_colon {l : List UInt8} {i : Nat} (h : i < l.length) (h58 : l[i] = 58) : Lk.ends l i = Lk.ends l (i + 1) := by
  have hd : Lib.decodeL (l.drop i) = (58, 1) := by
    rw [List.drop_eq_getElem_cons h, Es.decodeL_low (by rw [h58]; decide), h58]; rfl
  rw [Lk.ends_step h, hd, if_neg (by decide), if_neg (by decide)]

set_option maxHeartbeats 8000000 in
set_option maxRecDepth 100000 in
theorem pauto_on (l : List UInt8) (k : Nat) (hk : k < l.length) (hs : l.length ≤ 1000000000) (h60 : l[k] = 60) (w : World) :
    Calls Tryz.prog 63 #[.string (bs l), .int .i64 (k : Int)] w fun e w' => e = .returned (spanV (Lk.auto l (k : Int))) ∧ Below w.heap.size w w' := by
  have hsz := bs_size l
  have qst := fun w => stands_any l (k : Int) 60 60 rfl hs w
  rw [show stand l (k : Int) 60 = true from by rw [stand_in (by omega) (by simpa using hk)]; simpa using h60] at qst
  have hfr := fun w => run_from_at (S := l) (i := k + 1) (v := (k : Int) + 1) (by omega) (by omega) w
  have hss := starts_scheme hk h60
  have hon := fun h => Lk.auto_on (l := l) (k := k) h rfl
  have hoff := fun h => Lk.auto_off (l := l) (k := k) h
  rw [hss] at hon hoff
  obtain ⟨R, hR⟩ : ∃ R, R = Lk.auto l (k : Int) := ⟨_, rfl⟩
  rw [← hR] at hon hoff ⊢
  have hlen : (l.drop (k + 1)).length = l.length - (k + 1) := by rw [List.length_drop]
  have qsc := fun w => scheme_any (l.drop (k + 1)) w (by omega)
  have h58 : schemeOk (l.drop (k + 1)) = true → k + 1 + Lk.letters (l.drop (k + 1)) < l.length ∧ Lk.ends l (k + 1 + Lk.letters (l.drop (k + 1))) = Lk.ends l (k + 1 + (Lk.letters (l.drop (k + 1)) + 1)) := by
    intro h
    have h3 := (of_decide_eq_true h).2.2
    have hlt : Lk.letters (l.drop (k + 1)) < (l.drop (k + 1)).length := by
      by_cases hc : Lk.letters (l.drop (k + 1)) < (l.drop (k + 1)).length
      · exact hc
      · rw [getD_out hc] at h3; exact absurd h3 (by decide)
    rw [getD_at hlt, List.getElem_drop] at h3
    exact ⟨by omega, ends_colon (by omega) h3⟩
  obtain ⟨n, hn⟩ : ∃ n, n = Lk.letters (l.drop (k + 1)) := ⟨_, rfl⟩
  rw [← hn] at hon h58 qsc
  obtain ⟨o, ho⟩ : ∃ o, o = schemeOk (l.drop (k + 1)) := ⟨_, rfl⟩
  rw [← ho] at hon hoff h58 qsc
  obtain ⟨T, hT⟩ : ∃ T, T = l.drop (k + 1) := ⟨_, rfl⟩
  rw [← hT] at hfr qsc hlen
  replace hon := Lib.hid hon
  replace hoff := Lib.hid hoff
  replace h58 := Lib.hid h58
  replace hT := Lib.hid hT
  clear hR hss h60 hn ho
  have hTs := bs_size T
  cases o with
  | false =>
    have hres : R = none := hoff.out rfl
    subst hres
    go_enter Tryz.func63, Tryz.ntmps63
    go_wp2_with fail
    refine (qst _).mono ?_
    rintro e w0 ⟨rfl, rfl⟩
    go_wp2_with fail
    refine (qsc _).mono ?_
    rintro e w1 ⟨⟨m, rfl, _⟩, hb1⟩
    go_wp2
    go_ret3
    exact ⟨rfl, hb1⟩
  | true =>
    obtain ⟨hlt, hen⟩ := h58.out rfl
    obtain ⟨b, hbd⟩ : ∃ b, b = k + 1 + (n + 1) := ⟨_, rfl⟩
    have hR2 : Hid (R = (Lk.ends l b).map fun j => (mid l (k + 1) j, j + 1)) := Lib.hid (by rw [hon.out rfl, hen, hbd])
    have hbl : b ≤ l.length := by omega
    have hfr2 := fun w => run_from_at (S := l) (i := b) (v := (n : Int) + 1 + ((k : Int) + 1)) hbl (by omega) w
    obtain ⟨U, hU⟩ : ∃ U, U = l.drop b := ⟨_, rfl⟩
    have hUl : U.length = l.length - b := by rw [hU, List.length_drop]
    have hUs := bs_size U
    have hUd : Hid (∀ q, Utf8.decode (bs U) q = Lib.decodeL (l.drop (b + q))) := Lib.hid (by
      intro q
      rw [← runes_next.decodeL_drop' U q, hU, List.drop_drop])
    rw [← hU] at hfr2
    have hbi : (b : Int) = (n : Int) + 1 + ((k : Int) + 1) := by omega
    replace hbd := Lib.hid hbd
    replace hU := Lib.hid hU
    clear hon hoff h58 hen
    go_enter Tryz.func63, Tryz.ntmps63
    go_wp2_with fail
    refine (qst _).mono ?_
    rintro e w0 ⟨rfl, rfl⟩
    go_wp2_with fail
    refine (qsc _).mono ?_
    rintro e w1 ⟨⟨m, rfl, hm⟩, hb1⟩
    have hmn : (m : Int) = (n : Int) + 1 := by have := hm (by trivial); omega
    rw [hmn]
    clear hm hmn
    have hb1z := hb1.size
    go_wp2_with fail
    go_loopw [] (fun wr => ∃ pos : Nat, pos ≤ U.length ∧ Hid (wr.heap[w1.heap.size]? = some (.stringIter (bs U) pos)) ∧ Hid (Lk.ends l b = Lk.ends l (b + pos)) ∧ Below w.heap.size w wr)
      (fun wr => U.length - wr.iterPos w1.heap.size)
    case atStart => exact ⟨0, by omega, Lib.hid (iter_new _ _ _ rfl), Lib.hid rfl, hb1.alloc hb1.size _⟩
    case round =>
      obtain ⟨pos, hp1, hit, he, hb⟩ := hrel
      by_cases hp : pos < U.length
      · obtain ⟨x, q, hq, hql, hd, hvx, hdL, hc⟩ := first_rune hp
        have hst := Lk.ends_step (l := l) (i := b + pos) (by omega)
        rw [← hUd.out pos, hd, ← he.out] at hst
        simp only at hst
        have hnx := run_next_rune hit.out hp hd
        have hit2 := Lib.hid (Lib.iterAt_heap wr w1.heap.size (bs U) pos (pos + q) hit.out)
        have hb2 := Lib.below_iterAt hb (k := w1.heap.size) (by omega) (bs U) (pos + q)
        have hpos : Hid (wr.iterPos w1.heap.size = pos) := Lib.hid (by simp only [World.iterPos, hit.out])
        have hpos2 : Hid ((wr.iterAt w1.heap.size (bs U) (pos + q)).iterPos w1.heap.size = pos + q) := Lib.hid (by simp only [World.iterPos, hit2.out])
        replace hd := Lib.hid hd
        replace hdL := Lib.hid hdL
        replace hc := Lib.hid hc
        by_cases h62 : x = 62
        · have hres : R = some (mid l (k + 1) (b + pos), b + pos + 1) := by rw [hR2.out, hst, if_pos h62]; rfl
          have t : ((x : Int) == 62) = true := by simp [h62]
          have hcut := fun w => run_mid_at (S := l) (i := k + 1) (j := b + pos) (v := (k : Int) + 1) (u := (n : Int) + 1 + ((k : Int) + 1) + (pos : Int)) (by omega) (by omega) (by omega) (by omega) w
          have hml : (mid l (k + 1) (b + pos)).length ≤ 140737488355328 := by rw [mid_len (by omega)]; omega
          have qcl := fun w => lk_clone_any (mid l (k + 1) (b + pos)) w hml
          obtain ⟨M, hM⟩ : ∃ M, M = mid l (k + 1) (b + pos) := ⟨_, rfl⟩
          rw [← hM] at hcut qcl hres
          have hsp : spanV (some (M, b + pos + 1)) = .tuple #[.string (bs M), .int .i64 ((n : Int) + 1 + ((k : Int) + 1) + (pos : Int) + 1), .bool true] := by
            show Value.tuple #[.string (bs M), .int .i64 ((b + pos + 1 : Nat) : Int), .bool true] = _
            rw [show ((b + pos + 1 : Nat) : Int) = (n : Int) + 1 + ((k : Int) + 1) + (pos : Int) + 1 by omega]
          subst hres
          replace hsp := Lib.hid hsp
          replace h62 := Lib.hid h62
          clear hst he hR2 hM hml
          go_wp2_with fail
          refine (qcl _).mono ?_
          rintro e w4 ⟨rfl, hb4⟩
          replace hb4 := ext_trans hb2 hb4
          go_wp2
          go_ret3
          exact ⟨congrArg Ending.returned hsp.out.symm, hb4⟩
        · have t : ((x : Int) == 62) = false := by rw [beq_eq_false_iff_ne]; omega
          rw [if_neg h62] at hst
          by_cases h60 : x = 60
          · have hres : R = none := by rw [hR2.out, hst, if_pos (.inl h60)]; rfl
            have t2 : ((x : Int) == 60) = true := by simp [h60]
            subst hres
            replace h62 := Lib.hid h62
            replace h60 := Lib.hid h60
            clear hst he hR2
            go_wp2
            go_ret3
            exact ⟨rfl, hb2⟩
          · have t2 : ((x : Int) == 60) = false := by rw [beq_eq_false_iff_ne]; omega
            have qb := fun w => blank_any (x : Int) w
            cases hbl : blankB (x : Int) with
            | true =>
              have hres : R = none := by rw [hR2.out, hst, if_pos (.inr hbl)]; rfl
              rw [hbl] at qb
              subst hres
              replace h62 := Lib.hid h62
              replace h60 := Lib.hid h60
              clear hst he hR2 hbl
              go_wp2_with (go_at_call 80; refine (qb _).mono ?_; rintro e w4 ⟨rfl, rfl⟩)
              go_ret3
              exact ⟨rfl, hb2⟩
            | false =>
              rw [if_neg (by rw [hbl]; simp [h60])] at hst
              rw [hbl] at qb
              have he2 : Hid (Lk.ends l b = Lk.ends l (b + (pos + q))) := Lib.hid (by rw [hst, Nat.add_assoc])
              replace h62 := Lib.hid h62
              replace h60 := Lib.hid h60
              clear hst he hbl
              go_wp2_with (go_at_call 80; refine (qb _).mono ?_; rintro e w4 ⟨rfl, rfl⟩)
              go_roundw
              case rel => exact ⟨pos + q, by omega, hit2, he2, hb2⟩
              case measure => rw [hpos.out, hpos2.out]; omega
      · have hnx := run_next_done hit.out hp
        have hres : R = none := by rw [hR2.out, he.out, Lk.ends_out (by omega)]; rfl
        subst hres
        clear he hR2
        go_wp2
        go_ret3
        exact ⟨rfl, hb⟩

set_option maxHeartbeats 1000000 in
set_option maxRecDepth 100000 in
theorem pauto_any (l : List UInt8) (at_ : Int) (hs : l.length ≤ 1000000000) (w : World) :
    Calls Tryz.prog 63 #[.string (bs l), .int .i64 at_] w fun e w' => e = .returned (spanV (Lk.auto l at_)) ∧ Below w.heap.size w w' := by
  cases h : stand l at_ 60 with
  | true =>
    obtain ⟨k, rfl, hk, h60⟩ := stand_yes h
    exact pauto_on l k hk hs h60 w
  | false =>
    have hno : Lk.auto l at_ = none := by
      apply auto_no
      by_cases h1 : at_ < 0
      · exact .inl h1
      · by_cases h2 : (l.length : Int) ≤ at_
        · exact .inr (.inl ⟨by omega, h2⟩)
        · refine .inr (.inr ⟨by omega, by omega, ?_⟩)
          rw [stand_in (by omega) (by omega)] at h
          simpa using h
    have qst := fun w => stands_any l at_ 60 60 rfl hs w
    rw [h] at qst
    rw [hno]
    clear h hno
    go_enter Tryz.func63, Tryz.ntmps63
    go_wp2_with fail
    refine (qst _).mono ?_
    rintro e w0 ⟨rfl, rfl⟩
    go_wp2
    go_ret3
    exact ⟨rfl, Below.refl _ _⟩

/-- where what begins at a place ends -/
def behA (l : List UInt8) (k : Nat) : Nat := match Lk.auto l (k : Int) with | some x => x.2 | none => k + 1
def behC (l : List UInt8) (k : Nat) : Nat := match Cd.span l (k : Int) with | some x => x.2 | none => k + Fn.run 96 (l.drop k)
theorem behA_some {l : List UInt8} {k : Nat} {t : List UInt8} {e : Nat} (h : Lk.auto l (k : Int) = some (t, e)) : behA l k = e := by unfold behA; rw [h]
theorem behA_none {l : List UInt8} {k : Nat} (h : Lk.auto l (k : Int) = none) : behA l k = k + 1 := by unfold behA; rw [h]
end Go.Proofs.YtkfhkfagmokjpaaGreatDoor

namespace Go.Proofs.YtkfhkfagmokjpaaGreatDoor
open Go.RowKit

/-- what stands at a place, and what esc's Next says of it -/
theorem next_own {l : List UInt8} {i : Nat} (h : i < l.length) (ho : (Es.next l i).2.2 = true) : l[i] = 92 := by
  rw [Es.next_in h] at ho
  simp only at ho
  cases hes : Es.isEsc (l.drop i) with
  | true =>
    rw [List.drop_eq_getElem_cons h] at hes
    by_cases h92 : l[i] = 92
    · exact h92
    · rw [Es.isEsc_high h92] at hes; cases hes
  | false => rw [Es.step_no hes] at ho; cases ho
theorem next_low {l : List UInt8} {i : Nat} (h : i < l.length) (ho : (Es.next l i).2.2 = false) :
    (l[i].toNat < 128 ∧ (Es.next l i).1 = l[i].toNat ∧ (Es.next l i).2.1 = i + 1) ∨ (128 ≤ l[i].toNat ∧ 128 ≤ (Es.next l i).1) := by
  rw [Es.next_in h] at ho ⊢
  simp only at ho ⊢
  cases hes : Es.isEsc (l.drop i) with
  | true => rw [Es.step_yes hes] at ho; cases ho
  | false =>
    rw [Es.step_no hes]
    obtain ⟨x, k, _, _, _, _, hdL, hc⟩ := first_rune h
    rw [hdL]
    rcases hc with ⟨h1, h2, h3⟩ | ⟨h1, h2, _⟩
    · exact .inl ⟨h1, h2, by simp only [h3]⟩
    · exact .inr ⟨h1, h2⟩
theorem next_byte {l : List UInt8} {i : Nat} {c : UInt8} (h : i < l.length) (ho : (Es.next l i).2.2 = false) (hc : c.toNat < 128) : (Es.next l i).1 = c.toNat ↔ l[i] = c := by
  rcases next_low h ho with ⟨h1, h2, _⟩ | ⟨h1, h2⟩
  · rw [h2]; exact ⟨fun e => UInt8.toNat_inj.1 e, fun e => by rw [e]⟩
  · exact ⟨fun e => by omega, fun e => by rw [e] at h1; omega⟩
theorem auto_other {l : List UInt8} {i : Nat} (h : i < l.length) (h60 : l[i] ≠ 60) : Lk.auto l (i : Int) = none := by
  cases ha : Lk.auto l (i : Int) with
  | none => rfl
  | some x =>
    obtain ⟨t, e⟩ := x
    have := (Lk.auto_spec ha).2.2
    rw [getD_at h] at this
    exact absurd this h60

/-- where the walk goes on, and what stands there, as the program sees it -/
theorem close_sees {l : List UInt8} {i : Nat} (h : i < l.length) :
    ((Es.next l i).2.2 = true → Lk.hop l i = (Es.next l i).2.1 ∧ Lk.sign l i = 0) ∧
    ((Es.next l i).2.2 = false →
      ((Es.next l i).1 = 96 → Lk.hop l i = behC l i ∧ Lk.sign l i = 0) ∧
      ((Es.next l i).1 = 60 → Lk.hop l i = behA l i ∧ Lk.sign l i ≠ 91 ∧ Lk.sign l i ≠ 93) ∧
      ((Es.next l i).1 ≠ 96 → (Es.next l i).1 ≠ 60 → Lk.hop l i = (Es.next l i).2.1 ∧ Lk.sign l i = (Es.next l i).1)) := by
  have hg := getD_at h
  refine ⟨fun ho => ?_, fun ho => ⟨fun h96 => ?_, fun h60 => ?_, fun h96 h60 => ?_⟩⟩
  · have h92 := next_own h ho
    have := Lk.hop_next (l := l) (i := i) (by rw [hg, h92]; decide) (auto_other h (by rw [h92]; decide))
    rw [ho, if_pos rfl] at this
    exact this
  · have hl : l[i] = 96 := (next_byte (c := 96) h ho (by decide)).1 h96
    unfold Lk.hop Lk.sign behC
    rw [if_pos (by rw [hg, hl]), if_pos (by rw [hg, hl])]
    exact ⟨rfl, rfl⟩
  · have hl : l[i] = 60 := (next_byte (c := 60) h ho (by decide)).1 h60
    have hne : l.getD i 0 ≠ 96 := by rw [hg, hl]; decide
    cases ha : Lk.auto l (i : Int) with
    | some x =>
      obtain ⟨t, e⟩ := x
      obtain ⟨j1, j2⟩ := Lk.hop_auto hne ha
      exact ⟨j1.trans (behA_some ha).symm, by rw [j2]; decide, by rw [j2]; decide⟩
    | none =>
      obtain ⟨j1, j2⟩ := Lk.hop_next hne ha
      rw [ho, if_neg (by decide), h60] at j2
      refine ⟨?_, by rw [j2]; decide, by rw [j2]; decide⟩
      rw [j1, behA_none ha]
      rcases next_low h ho with ⟨_, _, h3⟩ | ⟨h1, _⟩
      · exact h3
      · rw [hl] at h1; exact absurd h1 (by decide)
  · have hl96 : l[i] ≠ 96 := fun e => h96 ((next_byte (c := 96) h ho (by decide)).2 e)
    have hl60 : l[i] ≠ 60 := fun e => h60 ((next_byte (c := 60) h ho (by decide)).2 e)
    have := Lk.hop_next (l := l) (i := i) (by rw [hg]; exact hl96) (auto_other h hl60)
    rw [ho, if_neg (by decide)] at this
    exact this

end Go.Proofs.YtkfhkfagmokjpaaGreatDoor

namespace Go.Proofs.YtkfhkfagmokjpaaGreatDoor
open Go.RowKit

theorem next_own_blank {l : List UInt8} {i : Nat} (h : i < l.length) (ho : (Es.next l i).2.2 = true) : blankB ((Es.next l i).1 : Int) = false := by
  rw [Es.next_in h] at ho ⊢
  simp only at ho ⊢
  cases hes : Es.isEsc (l.drop i) with
  | false => rw [Es.step_no hes] at ho; cases ho
  | true =>
    rw [Es.step_yes hes]
    have ha := (Es.asc_iff _).1 (Es.isEsc_asc hes)
    rw [← Bool.not_eq_true]
    intro hb
    have := (Ru.bl_iff _).1 hb
    omega

set_option maxHeartbeats 8000000 in
set_option maxRecDepth 100000 in
theorem pdest_on (l : List UInt8) (k : Nat) (hk : k < l.length) (hs : l.length ≤ 1000000000) (h40 : l[k] = 40) (w : World) :
    Calls Tryz.prog 65 #[.string (bs l), .int .i64 (k : Int)] w fun e w' => e = .returned (spanV (Lk.dest l (k : Int))) ∧ Below w.heap.size w w' := by
  have hsz := bs_size l
  have qst := fun w => stands_any l (k : Int) 40 40 rfl hs w
  rw [show stand l (k : Int) 40 = true from by rw [stand_in (by omega) (by simpa using hk)]; simpa using h40] at qst
  have hcl := Lk.dest_on hk (by rw [getD_at hk]; exact h40)
  obtain ⟨R, hR⟩ : ∃ R, R = Lk.dest l (k : Int) := ⟨_, rfl⟩
  rw [← hR] at hcl ⊢
  clear hR h40
  replace hcl := Lib.hid hcl
  go_enter Tryz.func65, Tryz.ntmps65
  go_wp2_with fail
  refine (qst _).mono ?_
  rintro e w0 ⟨rfl, rfl⟩
  go_wp2_with fail
  go_loopw [8] (fun u wr => ∃ i : Nat, k + 1 ≤ i ∧ i ≤ l.length ∧ u = .int .i64 i ∧ Hid (Lk.dends l (k + 1) = Lk.dends l i) ∧ Below w.heap.size w wr) (fun u _ => l.length - (intOf u).toNat)
  case atStart => exact ⟨k + 1, by omega, by omega, by go_num, Lib.hid rfl, Below.refl _ _⟩
  case round =>
    obtain ⟨i, hi1, hi2, rfl, he, hb⟩ := hrel
    by_cases hil : i < l.length
    · have hst := Lk.dends_step hil
      have hmo := Es.next_more hil
      rw [← he.out] at hst
      have q2 := fun w => pnext_any l (i : Int) hs w trivial
      rw [Int.toNat_natCast] at q2
      unfold nextV at q2
      have hob := next_own_blank hil
      have hlow := fun h => next_byte (c := 41) hil h (by decide)
      have hlow2 := next_low hil
      obtain ⟨⟨r, nx, its⟩, hN⟩ : ∃ x, x = Es.next l i := ⟨_, rfl⟩
      rw [← hN] at q2 hst hmo hob hlow hlow2
      simp only at q2 hst hmo hob hlow hlow2
      clear hN
      cases its with
      | true =>
        have he2 : Hid (Lk.dends l (k + 1) = Lk.dends l nx) := Lib.hid (by rw [hst, if_neg (by simp), if_neg (by simp)])
        have qb := fun w => blank_any (r : Int) w
        rw [hob rfl] at qb
        clear he hst hob hlow hlow2
        go_wp2_with fail
        refine (q2 _).mono ?_
        rintro e w2 ⟨rfl, hb2⟩
        replace hb2 := ext_trans hb hb2
        go_wp2_with fail
        refine (qb _).mono ?_
        rintro e w3 ⟨rfl, rfl⟩
        go_wp2_with fail
        go_roundw
        case rel => exact ⟨nx, by omega, by omega, rfl, he2, hb2⟩
        case measure => simp [intOf]; omega
      | false =>
        by_cases h41 : r = 41
        · have hnx : (nx : Int) = (i : Int) + 1 := by
            have hl : l[i] = 41 := (hlow rfl).1 (by rw [h41]; rfl)
            rcases hlow2 rfl with ⟨_, _, h3⟩ | ⟨h1, _⟩
            · omega
            · rw [hl] at h1; exact absurd h1 (by decide)
          have hres : R = some (Ru.enc (Es.plain (mid l (k + 1) i)), i + 1) := by rw [hcl.out, hst, if_pos ⟨rfl, h41⟩]; rfl
          have t1 : (((r : Nat) : Int) == 41) = true := by simp [h41]
          have hcut := fun w => run_mid_at (S := l) (i := k + 1) (j := i) (v := (k : Int) + 1) (u := (i : Int)) (by omega) (by omega) (by omega) rfl w
          have q3 := fun w => pplain_any (mid l (k + 1) i) w (by rw [mid_len (by omega)]; omega) trivial
          clear he hst h41 hcl hob hlow hlow2
          obtain ⟨T, hT⟩ : ∃ T, T = Ru.enc (Es.plain (mid l (k + 1) i)) := ⟨_, rfl⟩
          rw [← hT] at q3 hres
          clear hT
          have hsp : spanV (some (T, i + 1)) = .tuple #[.string (bs T), .int .i64 (nx : Int), .bool true] := by
            show Value.tuple #[.string (bs T), .int .i64 ((i + 1 : Nat) : Int), .bool true] = _
            rw [hnx]; rfl
          subst hres
          replace hnx := Lib.hid hnx
          replace hsp := Lib.hid hsp
          go_wp2_with fail
          refine (q2 _).mono ?_
          rintro e w2 ⟨rfl, hb2⟩
          replace hb2 := ext_trans hb hb2
          have hcut1 := hcut w2
          go_wp2_with fail
          refine (q3 _).mono ?_
          rintro e w3 ⟨rfl, hb3⟩
          replace hb3 := ext_trans hb2 hb3
          go_wp2
          go_ret3
          exact ⟨congrArg Ending.returned hsp.out.symm, hb3⟩
        · have t1 : (((r : Nat) : Int) == 41) = false := by rw [beq_eq_false_iff_ne]; omega
          rw [if_neg (fun h => h41 h.2)] at hst
          clear hob hlow hlow2
          by_cases h40 : r = 40
          · have hres : R = none := by rw [hcl.out, hst, if_pos ⟨rfl, .inl h40⟩]; rfl
            have t2 : (((r : Nat) : Int) == 40) = true := by simp [h40]
            subst hres
            clear he hst h41 hcl h40
            go_wp2_with fail
            refine (q2 _).mono ?_
            rintro e w2 ⟨rfl, hb2⟩
            replace hb2 := ext_trans hb hb2
            go_wp2
            go_ret3
            exact ⟨rfl, hb2⟩
          · have t2 : (((r : Nat) : Int) == 40) = false := by rw [beq_eq_false_iff_ne]; omega
            have qb := fun w => blank_any (r : Int) w
            cases hbl : blankB (r : Int) with
            | true =>
              have hres : R = none := by rw [hcl.out, hst, if_pos ⟨rfl, .inr hbl⟩]; rfl
              rw [hbl] at qb
              subst hres
              clear he hst h41 hcl h40 hbl
              go_wp2_with fail
              refine (q2 _).mono ?_
              rintro e w2 ⟨rfl, hb2⟩
              replace hb2 := ext_trans hb hb2
              go_wp2_with fail
              refine (qb _).mono ?_
              rintro e w3 ⟨rfl, rfl⟩
              go_wp2
              go_ret3
              exact ⟨rfl, hb2⟩
            | false =>
              have he2 : Hid (Lk.dends l (k + 1) = Lk.dends l nx) := Lib.hid (by rw [hst, if_neg (by rw [hbl]; simp [h40])])
              rw [hbl] at qb
              clear he hst h41 h40 hbl
              go_wp2_with fail
              refine (q2 _).mono ?_
              rintro e w2 ⟨rfl, hb2⟩
              replace hb2 := ext_trans hb hb2
              go_wp2_with fail
              refine (qb _).mono ?_
              rintro e w3 ⟨rfl, rfl⟩
              go_wp2_with fail
              go_roundw
              case rel => exact ⟨nx, by omega, by omega, rfl, he2, hb2⟩
              case measure => simp [intOf]; omega
    · have hres : R = none := by rw [hcl.out, he.out, Lk.dends_out (by omega)]; rfl
      subst hres
      clear hcl he
      go_wp2
      go_ret3
      exact ⟨rfl, hb⟩

set_option maxHeartbeats 1000000 in
set_option maxRecDepth 100000 in
theorem pdest_any (l : List UInt8) (at_ : Int) (hs : l.length ≤ 1000000000) (w : World) :
    Calls Tryz.prog 65 #[.string (bs l), .int .i64 at_] w fun e w' => e = .returned (spanV (Lk.dest l at_)) ∧ Below w.heap.size w w' := by
  cases h : stand l at_ 40 with
  | true =>
    obtain ⟨k, rfl, hk, h40⟩ := stand_yes h
    exact pdest_on l k hk hs h40 w
  | false =>
    have hno : Lk.dest l at_ = none := by
      apply dest_no
      by_cases h1 : at_ < 0
      · exact .inl h1
      · by_cases h2 : (l.length : Int) ≤ at_
        · exact .inr (.inl ⟨by omega, h2⟩)
        · refine .inr (.inr ⟨by omega, by omega, ?_⟩)
          rw [stand_in (by omega) (by omega)] at h
          simpa using h
    have qst := fun w => stands_any l at_ 40 40 rfl hs w
    rw [h] at qst
    rw [hno]
    clear h hno
    go_enter Tryz.func65, Tryz.ntmps65
    go_wp2_with fail
    refine (qst _).mono ?_
    rintro e w0 ⟨rfl, rfl⟩
    go_wp2
    go_ret3
    exact ⟨rfl, Below.refl _ _⟩
end Go.Proofs.YtkfhkfagmokjpaaGreatDoor

namespace Go.Proofs.YtkfhkfagmokjpaaGreatDoor
open Go.RowKit

end Go.Proofs.YtkfhkfagmokjpaaGreatDoor

namespace Go.Proofs.YtkfhkfagmokjpaaGreatDoor
open Go.RowKit

end Go.Proofs.YtkfhkfagmokjpaaGreatDoor

namespace Go.Proofs.YtkfhkfagmokjpaaGreatDoor
open Go.RowKit

def behN (s : List UInt8) (i : Nat) : Nat :=
  match Cd.span s (i : Int) with
  | some x => x.2
  | none => match Lk.auto s (i : Int) with
    | some x => x.2
    | none => i + max (Fn.run 96 (s.drop i)) 1
set_option maxHeartbeats 8000000 in
set_option maxRecDepth 100000 in
theorem pbehind_any (g o : Nat) (s : List UInt8) (i : Nat) (hi : i < s.length) (hs : s.length ≤ 4000000) (w : World) (h0 : w.cell? ⟨g, o, none⟩ = some (.string (bs s))) (hg : g < w.heap.size) :
    Calls Tryz.prog 93 #[.pointer (some ⟨g, o, none⟩), .int .i64 (i : Int)] w fun e w' => e = .returned (.int .i64 (behN s i : Int)) ∧ Below w.heap.size w w' := by
  have hsp := Lib.hid (cspan_any s (i : Int) (by omega) w)
  have hau := Lib.hid (fun w => pauto_any s (i : Int) (by omega) w)
  have hrl := Fn.run_le 96 (s.drop i)
  rw [List.length_drop] at hrl
  have hrun := Lib.hid (fun w => crun_all s (i : Int) 96 w (by omega))
  rw [runV_at] at hrun
  unfold behN
  cases h1 : Cd.span s (i : Int) with
  | some x =>
    obtain ⟨t, n⟩ := x
    rw [h1] at hsp
    unfold spanV at hsp
    clear h1 hau hrun
    simp only
    go_enter Tryz.func93, Tryz.ntmps93
    go_wp2_with fail
    refine hsp.out.mono ?_
    rintro e w1 ⟨rfl, hb1⟩
    replace hb1 := Lib.hid hb1
    clear hsp h0
    go_wp2
    go_ret
    exact ⟨rfl, hb1.out⟩
  | none =>
    rw [h1] at hsp
    unfold spanV at hsp
    clear h1
    cases h2 : Lk.auto s (i : Int) with
    | some x =>
      obtain ⟨t, n⟩ := x
      rw [h2] at hau
      unfold spanV at hau
      clear h2 hrun
      simp only
      go_enter Tryz.func93, Tryz.ntmps93
      go_wp2_with fail
      refine hsp.out.mono ?_
      rintro e w1 ⟨rfl, hb1⟩
      have k0 := (hb1.cell (p := ⟨g, o, none⟩) hg).trans h0
      replace hb1 := Lib.hid hb1
      clear hsp h0
      go_wp2_with fail
      refine (hau.out _).mono ?_
      rintro e w2 ⟨rfl, hb2⟩
      have hb := Lib.hid (ext_trans hb1.out hb2)
      clear hau hb2 k0
      go_wp2
      go_ret
      exact ⟨rfl, hb.out⟩
    | none =>
      rw [h2] at hau
      unfold spanV at hau
      clear h2
      simp only
      obtain ⟨n, hn⟩ : ∃ n, n = Fn.run 96 (s.drop i) := ⟨_, rfl⟩
      rw [← hn] at hrun hrl ⊢
      clear hn
      go_enter Tryz.func93, Tryz.ntmps93
      go_wp2_with fail
      refine hsp.out.mono ?_
      rintro e w1 ⟨rfl, hb1⟩
      have k0 := (hb1.cell (p := ⟨g, o, none⟩) hg).trans h0
      have hz1 := hb1.size
      replace hb1 := Lib.hid hb1
      clear hsp h0
      go_wp2_with fail
      refine (hau.out _).mono ?_
      rintro e w2 ⟨rfl, hb2⟩
      have k1 := (hb2.cell (p := ⟨g, o, none⟩) (Nat.lt_of_lt_of_le hg hz1)).trans k0
      have hb := Lib.hid (ext_trans hb1.out hb2)
      clear hau hb2 k0
      go_wp2_with fail
      refine (hrun.out _).mono ?_
      rintro e w3 ⟨rfl, rfl⟩
      clear hrun
      by_cases hn1 : n = 0
      · subst hn1
        go_wp2
        go_ret
        exact ⟨by simp; omega, hb.out⟩
      · have hn2 : 1 ≤ n := by omega
        go_wp2
        go_ret
        exact ⟨by rw [show max n 1 = n by omega]; simp; omega, hb.out⟩
end Go.Proofs.YtkfhkfagmokjpaaGreatDoor

namespace Go.Proofs.YtkfhkfagmokjpaaGreatDoor

theorem behN_tick {s : List UInt8} {i : Nat} (hi : i < s.length) (hb : s[i] = 96) : behN s i = Lk.hop s i ∧ Lk.sign s i = 0 := by
  have hg : s.getD i 0 = 96 := by rw [Em.getD_at hi]; exact hb
  unfold behN
  cases hs : Cd.span s (i : Int) with
  | some x =>
    obtain ⟨t, e⟩ := x
    have := Lk.hop_span hg hs
    exact ⟨this.1.symm, this.2⟩
  | none =>
    have ha : Lk.auto s (i : Int) = none := auto_other hi (by rw [hb]; decide)
    have h1 := Lk.hop_run hg hs
    have h2 : 1 ≤ Fn.run 96 (s.drop i) := by rw [Fn.run_at hi hb]; omega
    rw [ha, h1.1]
    exact ⟨by simp only; omega, h1.2⟩
theorem behN_auto {s : List UInt8} {i : Nat} (hi : i < s.length) (hb : s[i] = 60) {t : List UInt8} {e : Nat} (ha : Lk.auto s (i : Int) = some (t, e)) : behN s i = Lk.hop s i ∧ Lk.sign s i = 0 := by
  have hg : s.getD i 0 ≠ 96 := by rw [Em.getD_at hi, hb]; decide
  have hs : Cd.span s (i : Int) = none := Cd.span_off (opens_no (.inr (.inr (.inl ⟨by rw [Int.toNat_natCast]; exact hi, by simp only [Int.toNat_natCast]; rw [hb]; decide⟩))))
  have h1 := Lk.hop_auto hg ha
  unfold behN
  rw [hs, ha]
  exact ⟨h1.1.symm, h1.2⟩
theorem brnext_low {s : List UInt8} {i : Nat} (hi : i < s.length) {b : UInt8} (hb : s[i] = b) (hl : b.toNat < 128) (h92 : b ≠ 92) : Es.next s i = (b.toNat, i + 1, false) := by
  rw [Es.next_in hi, List.drop_eq_getElem_cons hi, hb]
  have he : Es.isEsc (b :: s.drop (i + 1)) = false := by
    cases s.drop (i + 1) with
    | nil => rfl
    | cons c r => show (b == 92 && Es.asc c) = false; rw [show (b == 92) = false from by simpa using h92]; rfl
  rw [Es.step_no he, Es.decodeL_low hl]
theorem behN_less {s : List UInt8} {i : Nat} (hi : i < s.length) (hb : s[i] = 60) (ha : Lk.auto s (i : Int) = none) : behN s i = Lk.hop s i ∧ Lk.sign s i = 60 := by
  have hg : s.getD i 0 ≠ 96 := by rw [Em.getD_at hi, hb]; decide
  have hs : Cd.span s (i : Int) = none := Cd.span_off (opens_no (.inr (.inr (.inl ⟨by rw [Int.toNat_natCast]; exact hi, by simp only [Int.toNat_natCast]; rw [hb]; decide⟩))))
  have h1 := Lk.hop_next hg ha
  have h2 : Fn.run 96 (s.drop i) = 0 := Fn.run_no hi (by rw [hb]; decide)
  have h3 := brnext_low hi hb (by decide) (by decide)
  rw [h3] at h1
  unfold behN
  rw [hs, ha, h2]
  exact ⟨by rw [h1.1]; simp only; omega, by rw [h1.2]; simp⟩
end Go.Proofs.YtkfhkfagmokjpaaGreatDoor
