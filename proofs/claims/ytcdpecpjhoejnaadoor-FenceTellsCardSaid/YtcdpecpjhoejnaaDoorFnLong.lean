/- The document's own answer: how many signs a fence needs, by a range over each text's runes. -/
import Derived.Test.YtcdpecpjhoejnaaDoorRnIter
import Derived.Test.YtcdpecpjhoejnaaDoorFnFns
namespace Go.Proofs.YtcdpecpjhoejnaaDoor
open Go.RowKit

/-- no sign stands within a rune of more than one byte -/
theorem lg_rune {l : List UInt8} (h : l ≠ []) : Fn.lg l = max (Fn.run 96 l) (Fn.lg (l.drop (Lib.decodeL l).2)) := by
  obtain ⟨h4, hle, hct⟩ := Ru.rune_bytes h
  have hw := Lib.decodeL_width l
  rcases l with _ | ⟨b, r⟩
  · exact absurd rfl h
  · by_cases hk : (Lib.decodeL (b :: r)).2 = 1
    · rw [hk, Fn.lg_cons]; rfl
    · have hb : b ≠ 96 := by
        intro hb
        subst hb
        apply hk
        rw [Lib.decodeL_N]
        simp only [List.getD_cons_zero]
        rw [Lib.decodeN_ascii _ _ _ _ _ (by decide)]
      rw [Fn.run_stop _ hb, ← Fn.lg_free (b :: r) _ (fun j hj hjk => by
        rcases Nat.eq_zero_or_pos j with rfl | hp
        · exact hb
        · have := hct j hp hjk
          rw [List.getD_eq_getElem?_getD, List.getElem?_eq_getElem hj, Option.getD_some] at this
          intro he
          rw [he] at this
          exact absurd this (by decide))]
      omega

theorem lg_next {l : List UInt8} {pos m M : Nat} (h : pos < l.length) (hD : Hid (max m (Fn.lg (l.drop pos)) = M)) :
    ∃ x k : Nat, 1 ≤ k ∧ Utf8.decode (bs l) pos = (x, k) ∧ Hid (max (max m (Fn.run 96 (l.drop pos))) (Fn.lg (l.drop (pos + k))) = M) := by
  have hd := runes_next.decodeL_drop' l pos
  refine ⟨(Utf8.decode (bs l) pos).1, (Utf8.decode (bs l) pos).2, ?_, rfl, Lib.hid ?_⟩
  · rw [← hd]; exact Lib.decodeL_width _
  · have h1 := lg_rune (l := l.drop pos) (by intro h0; have := congrArg List.length h0; rw [List.length_drop] at this; simp at this; omega)
    have h2 := hD.out
    rw [hd, List.drop_drop] at h1
    omega
theorem lg_stop {l : List UInt8} {pos m M : Nat} (h : ¬ pos < l.length) (hD : Hid (max m (Fn.lg (l.drop pos)) = M)) : m = M := by
  have h2 := hD.out
  rw [List.drop_eq_nil_of_le (by omega)] at h2
  simpa [Fn.lg] using h2

set_option maxHeartbeats 1000000 in
set_option maxRecDepth 100000 in
theorem rlong_any (ls : List (List UInt8)) (A : Option Addr) (c : Nat) (w : World) (h : Row w w.heap.size 1 A ls.length (scells ls)) (hn : ls.length ≤ 140737488355328) (hl : ∀ s ∈ ls, s.length ≤ 140737488355328) :
    Calls Tryd.prog 16 #[.slice A ls.length c] w fun e w' => e = .returned (.int .i64 (Fn.long ls : Nat)) ∧ Below w.heap.size w w' := by
  have hR := Lib.hid h
  clear h
  have hll := Fn.lgs_le hl
  go_enter Tryd.func16, Tryd.ntmps16
  go_wp2_with fail
  go_loopw [3, 9] (fun v u wr => ∃ m k : Nat, k ≤ ls.length ∧ 2 ≤ m ∧ m ≤ max 2 (Fn.lgs ls) ∧ v = .int .i64 m ∧ u = .int .i64 k ∧ Hid (max m (Fn.lgs (ls.drop k)) = max 2 (Fn.lgs ls)) ∧ Below w.heap.size w wr) (fun _ u _ => ls.length - (intOf u).toNat)
  case atStart => exact ⟨2, 0, by omega, by omega, by omega, rfl, rfl, Lib.hid (by simp), Below.refl _ _⟩
  case round =>
    obtain ⟨m, k, hk, hm2, hmm, rfl, rfl, hf, hb⟩ := hrel
    obtain ⟨wo, rfl⟩ : ∃ wo : World, wo = wr := ⟨_, rfl⟩
    by_cases hlt : k < ls.length
    · obtain ⟨b, o, rfl, hbb, hc⟩ := text_cell hR.out (by omega)
      have hx : wo.cell? ⟨b, o + k, none⟩ = some (.string (bs ls[k])) := (hb.cell hbb).trans (hc k hlt)
      clear hc
      have hn : Hid (max (max m (Fn.lg ls[k])) (Fn.lgs (ls.drop (k + 1))) = max 2 (Fn.lgs ls)) := Lib.hid (by
        have h1 := hf.out
        rw [Fn.lgs_at hlt] at h1
        omega)
      have hll2 := Fn.lgs_mem (List.getElem_mem hlt)
      have hsl := hl _ (List.getElem_mem hlt)
      obtain ⟨l, hll⟩ : ∃ l, ls[k] = l := ⟨_, rfl⟩
      rw [hll] at hx hn hll2 hsl
      have hlk := Lib.hid hll
      clear hll
      go_wp2_with fail
      go_loopw [3] (fun v wr => ∃ m' pos : Nat, m' ≤ max m (Fn.lg l) ∧ v = .int .i64 m' ∧ Hid (wr.heap[wo.heap.size]? = some (.stringIter (bs l) pos)) ∧ Hid (max m' (Fn.lg (l.drop pos)) = max m (Fn.lg l)) ∧ Below wo.heap.size wo wr)
        (fun _ wr => l.length - wr.iterPos wo.heap.size)
      case atStart => exact ⟨m, 0, by omega, rfl, Lib.hid (iter_new _ _ _ rfl), Lib.hid (by simp), ext_alloc _ _⟩
      case round =>
        obtain ⟨m', pos, hm', rfl, hit, hD, hb2⟩ := hrel
        by_cases hp : pos < l.length
        · obtain ⟨x, kk, hkk, hd, hD2⟩ := lg_next hp hD
          have hnx := run_next_rune hit.out hp hd
          replace hd := Lib.hid hd
          have hit2 := Lib.hid (Lib.iterAt_heap wr wo.heap.size (bs l) pos (pos + kk) hit.out)
          have hb3 := Lib.below_iterAt hb2 (k := wo.heap.size) (Nat.le_refl _) (bs l) (pos + kk)
          have hpos : Hid (wr.iterPos wo.heap.size = pos) := Lib.hid (by simp only [World.iterPos, hit.out])
          have hpos2 : Hid ((wr.iterAt wo.heap.size (bs l) (pos + kk)).iterPos wo.heap.size = pos + kk) := Lib.hid (by simp only [World.iterPos, hit2.out])
          have hrun := fun w => rrun_any l pos 96 w hsl (by omega)
          have hrb := Fn.run_lg (l.drop pos)
          have hrb2 := Fn.lg_drop l pos
          obtain ⟨N, hN⟩ : ∃ N, Fn.run 96 (l.drop pos) = N := ⟨_, rfl⟩
          rw [hN] at hrun hrb hD2
          have hmx := Lib.hid (max_cast m' N)
          clear hN
          go_wp2_with fail
          refine (hrun _).mono ?_
          rintro e w' ⟨rfl, rfl⟩
          go_wp2
          go_roundw
          case rel => exact ⟨max m' N, pos + kk, by omega, hmx.out, hit2, hD2, hb3⟩
          case measure => rw [hpos.out, hpos2.out]; omega
        · have hnx := run_next_done hit.out hp
          have hfin := lg_stop hp hD
          subst hfin
          clear hD
          go_wp2
          go_roundw
          case rel => exact ⟨max m (Fn.lg l), k + 1, by omega, by omega, by omega, rfl, by go_num, hn, ext_trans hb hb2⟩
          case measure => simp [intOf]; omega
    · have hfin : Hid (Fn.long ls = m + 1) := Lib.hid (by
        have h1 := hf.out
        rw [Fn.lgs_end hlt] at h1
        unfold Fn.long; omega)
      go_wp2
      go_returns
      exact ⟨by rw [hfin.out]; rfl, hb⟩
end Go.Proofs.YtcdpecpjhoejnaaDoor
