/- Package link: a sign at a place, a scheme. -/
import Derived.Test.YtjkmhcolnidflaaLkFold
import Derived.Test.YtjkmhcolnidflaaLkCut
import Derived.Test.YtjkmhcolnidflaaCdProg
namespace Go.Proofs.Ytjkmhcolnidflaa
open Go.RowKit

/-! ### a sign at a place -/
def stand (l : List UInt8) (at_ : Int) (c : UInt8) : Bool := decide (0 ≤ at_ ∧ at_.toNat < l.length ∧ l.getD at_.toNat 0 = c)
theorem stand_neg {l : List UInt8} {at_ : Int} {c : UInt8} (h : at_ < 0) : stand l at_ c = false := by unfold stand; exact decide_eq_false (by omega)
theorem stand_out {l : List UInt8} {at_ : Int} {c : UInt8} (h : (l.length : Int) ≤ at_) : stand l at_ c = false := by unfold stand; exact decide_eq_false (by omega)
theorem stand_in {l : List UInt8} {at_ : Int} {c : UInt8} (h0 : 0 ≤ at_) (h : at_.toNat < l.length) : stand l at_ c = (l[at_.toNat] == c) := by
  unfold stand
  have e : l.getD at_.toNat 0 = l[at_.toNat] := by rw [List.getD_eq_getElem?_getD, List.getElem?_eq_getElem h]; rfl
  rw [Bool.eq_iff_iff, decide_eq_true_iff, beq_iff_eq, e]
  exact ⟨fun x => x.2.2, fun x => ⟨h0, h, x⟩⟩
theorem stand_yes {l : List UInt8} {at_ : Int} {c : UInt8} (h : stand l at_ c = true) : ∃ k : Nat, at_ = (k : Int) ∧ ∃ hk : k < l.length, l[k] = c := by
  unfold stand at h
  obtain ⟨h0, h1, h2⟩ := of_decide_eq_true h
  refine ⟨at_.toNat, by omega, h1, ?_⟩
  rw [List.getD_eq_getElem?_getD, List.getElem?_eq_getElem h1] at h2
  exact h2

set_option maxHeartbeats 1000000 in
theorem stands_any (l : List UInt8) (at_ : Int) (c : UInt8) (v : Int) (hv : v = (c.toNat : Int)) (_hs : l.length ≤ 1000000000) (w : World) :
    Calls Try.prog 24 #[.string (bs l), .int .i64 at_, .int .u8 v] w fun e w' => e = .returned (.bool (stand l at_ c)) ∧ w = w' := by
  have hsz := bs_size l
  by_cases h : at_ < 0
  · rw [stand_neg h]
    go_enter Try.func24, Try.ntmps24
    go_wp2
    go_ret
    exact ⟨rfl, rfl⟩
  · by_cases h2 : (l.length : Int) ≤ at_
    · rw [stand_out h2]
      go_enter Try.func24, Try.ntmps24
      go_wp2
      go_ret
      exact ⟨rfl, rfl⟩
    · have hk : at_.toNat < l.length := by omega
      rw [stand_in (by omega) hk]
      have hix := run_byte_at (i := at_.toNat) (v := at_) (S := l) hk (by omega) w
      have hbe : ((l[at_.toNat].toNat : Int) == v) = (l[at_.toNat] == c) := by
        subst hv
        rw [Bool.eq_iff_iff, beq_iff_eq, beq_iff_eq]
        exact ⟨fun h => UInt8.toNat_inj.1 (by omega), fun h => by rw [h]⟩
      obtain ⟨V, hV⟩ : ∃ V, V = (l[at_.toNat] == c) := ⟨_, rfl⟩
      rw [← hV] at hbe ⊢
      clear hV hv
      go_enter Try.func24, Try.ntmps24
      go_wp2
      go_ret
      exact ⟨rfl, rfl⟩

theorem lsmall_any (r : Int) (w : World) :
    Calls Try.prog 46 #[.int .i32 r] w fun e w' => e = .returned (.bool (decide (97 ≤ r ∧ r ≤ 122))) ∧ w = w' := by
  go_enter Try.func46, Try.ntmps46
  go_wp2
  all_goals go_ret
  all_goals (refine ⟨ret_bool ?_, rfl⟩; rw [Bool.eq_iff_iff]; simp; omega)

/-! ### a scheme -/
def schemeOk (l : List UInt8) : Bool := decide (2 ≤ Lk.letters l ∧ Lk.letters l ≤ 12 ∧ l.getD (Lk.letters l) 0 = 58)
theorem getD_at {l : List UInt8} {i : Nat} (h : i < l.length) : l.getD i 0 = l[i] := by rw [List.getD_eq_getElem?_getD, List.getElem?_eq_getElem h]; rfl
theorem getD_out {l : List UInt8} {i : Nat} (h : ¬ i < l.length) : l.getD i 0 = 0 := by rw [List.getD_eq_getElem?_getD, List.getElem?_eq_none (by omega)]; rfl

set_option maxHeartbeats 4000000 in
set_option maxRecDepth 100000 in
theorem scheme_any (l : List UInt8) (w : World) (hs : l.length ≤ 1000000000) :
    Calls Try.prog 30 #[.string (bs l)] w fun e w' => (∃ m : Nat, e = .returned (.tuple #[.int .i64 (m : Int), .bool (schemeOk l)]) ∧ (schemeOk l = true → m = Lk.letters l + 1)) ∧ Below w.heap.size w w' := by
  have hsz := bs_size l
  obtain ⟨R, hR⟩ : ∃ R, R = schemeOk l := ⟨_, rfl⟩
  obtain ⟨n, hn⟩ : ∃ n, n = Lk.letters l := ⟨_, rfl⟩
  have hR2 : Hid (R = decide (2 ≤ n ∧ n ≤ 12 ∧ l.getD n 0 = 58)) := Lib.hid (by rw [hR, hn]; rfl)
  rw [← hR, ← hn]
  replace hn := Lib.hid hn
  clear hR
  go_enter Try.func30, Try.ntmps30
  go_wp2
  go_loopw [] (fun wr => ∃ pos : Nat, pos ≤ l.length ∧ pos ≤ 12 ∧ Hid (wr.heap[w.heap.size]? = some (.stringIter (bs l) pos)) ∧ Hid (pos + Lk.letters (l.drop pos) = n) ∧ Below w.heap.size w wr)
    (fun wr => l.length - wr.iterPos w.heap.size)
  case atStart => exact ⟨0, by omega, by omega, Lib.hid (iter_new _ _ _ rfl), Lib.hid (by rw [hn.out]; simp), ext_alloc _ _⟩
  case round =>
    obtain ⟨pos, hp1, hp12, hit, hf, hb⟩ := hrel
    by_cases hp : pos < l.length
    · obtain ⟨x, k, hk, hkl, hd, hvx, hdL, hc⟩ := first_rune hp
      have hnx := run_next_rune hit.out hp hd
      have hit2 := Lib.hid (Lib.iterAt_heap wr w.heap.size (bs l) pos (pos + k) hit.out)
      have hb2 := Lib.below_iterAt hb (k := w.heap.size) (Nat.le_refl _) (bs l) (pos + k)
      have hpos : Hid (wr.iterPos w.heap.size = pos) := Lib.hid (by simp only [World.iterPos, hit.out])
      have hpos2 : Hid ((wr.iterAt w.heap.size (bs l) (pos + k)).iterPos w.heap.size = pos + k) := Lib.hid (by simp only [World.iterPos, hit2.out])
      replace hd := Lib.hid hd
      replace hdL := Lib.hid hdL
      by_cases h58 : x = 58
      · have hl58 : l[pos] = 58 := by
          rcases hc with ⟨_, h2, _⟩ | ⟨_, h2, _⟩
          · exact UInt8.toNat_inj.1 (by rw [← h2, h58]; rfl)
          · omega
        have hpn : pos = n := by have := hf.out; rw [Lk.letters_no hp (by rw [hl58]; decide)] at this; omega
        have hres : Hid (R = decide ((2 : Int) ≤ (pos : Int))) := Lib.hid (by
          rw [hR2.out, ← hpn, getD_at hp, hl58, Bool.eq_iff_iff, decide_eq_true_iff, decide_eq_true_iff]
          exact ⟨fun h => by omega, fun h => ⟨by omega, hp12, rfl⟩⟩)
        replace hpn := Lib.hid hpn
        have t : ((x : Int) == 58) = true := by simp [h58]
        replace h58 := Lib.hid h58
        replace hl58 := Lib.hid hl58
        replace hc := Lib.hid hc
        go_wp2
        go_ret2
        exact ⟨⟨pos + 1, by rw [hres.out]; rfl, fun _ => by have := hpn.out; omega⟩, hb2⟩
      · have t : ((x : Int) == 58) = false := by rw [beq_eq_false_iff_ne]; omega
        by_cases hsm : 97 ≤ x ∧ x ≤ 122
        · have hq : x = l[pos].toNat ∧ k = 1 := by
            rcases hc with ⟨_, h2, h3⟩ | ⟨_, h2, _⟩
            · exact ⟨h2, h3⟩
            · omega
          have hls : Lk.small l[pos] = true := (Lk.small_iff _).2 (by omega)
          have hf2 : Hid (pos + 1 + Lk.letters (l.drop (pos + 1)) = n) := Lib.hid (by have := hf.out; rw [Lk.letters_at hp hls] at this; omega)
          have hk1 : k = 1 := hq.2
          clear hq hls hc
          subst hk1
          have hds : (decide (97 ≤ (x : Int) ∧ (x : Int) ≤ 122)) = true := decide_eq_true (by omega)
          by_cases h12 : pos = 12
          · have hres : R = false := by
              rw [hR2.out]; refine decide_eq_false ?_
              have := hf2.out
              omega
            have hge : 12 ≤ pos := by omega
            subst hres
            replace h12 := Lib.hid h12
            replace hsm := Lib.hid hsm
            go_wp2_with (go_at_call 46; refine (lsmall_any _ _).mono ?_; rintro e w1 ⟨rfl, rfl⟩; rw [hds])
            go_ret2
            exact ⟨⟨0, rfl, fun h => by cases h⟩, hb2⟩
          · have hlt : pos < 12 := by omega
            replace h12 := Lib.hid h12
            replace hsm := Lib.hid hsm
            go_wp2_with (go_at_call 46; refine (lsmall_any _ _).mono ?_; rintro e w1 ⟨rfl, rfl⟩; rw [hds])
            go_roundw
            case rel => exact ⟨pos + 1, by omega, by omega, hit2, hf2, hb2⟩
            case measure => rw [hpos.out, hpos2.out]; omega
        · have hds : (decide (97 ≤ (x : Int) ∧ (x : Int) ≤ 122)) = false := decide_eq_false (by omega)
          have hls : Lk.small l[pos] = false := by
            rw [← Bool.not_eq_true, Lk.small_iff]
            rcases hc with ⟨_, h2, _⟩ | ⟨h2, _, _⟩ <;> omega
          have hpn : pos = n := by have := hf.out; rw [Lk.letters_no hp hls] at this; omega
          have hl58 : l[pos] ≠ 58 := by
            intro he
            rw [he] at hc
            rcases hc with ⟨_, h2, _⟩ | ⟨h2, _, _⟩
            · exact h58 h2
            · exact absurd h2 (by decide)
          have hres : R = false := by
            rw [hR2.out, ← hpn, getD_at hp]; exact decide_eq_false fun h => hl58 h.2.2
          subst hres
          clear hpn hls hl58 hc
          replace hsm := Lib.hid hsm
          replace h58 := Lib.hid h58
          go_wp2_with (go_at_call 46; refine (lsmall_any _ _).mono ?_; rintro e w1 ⟨rfl, rfl⟩; rw [hds])
          go_ret2
          exact ⟨⟨0, rfl, fun h => by cases h⟩, hb2⟩
    · have hnx := run_next_done hit.out hp
      have hpn : pos = n := by have := hf.out; rw [Lk.letters_end hp] at this; omega
      have hres : R = false := by
        rw [hR2.out, ← hpn, getD_out hp]; exact decide_eq_false fun h => absurd h.2.2 (by decide)
      subst hres
      clear hpn
      go_wp2
      go_ret2
      exact ⟨⟨0, rfl, fun h => by cases h⟩, hb⟩
end Go.Proofs.Ytjkmhcolnidflaa
