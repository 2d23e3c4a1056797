/- The document's own signs that mean themselves: one contract for each function. -/
import Derived.Test.YtjkmhcolnidflaaEsMath
import Derived.Test.YtjkmhcolnidflaaByt
import Derived.Test.YtjkmhcolnidflaaRnIter
import Derived.Test.YtjkmhcolnidflaaRnRunes
namespace Go.Proofs.Ytjkmhcolnidflaa
open Go.RowKit

set_option maxHeartbeats 2000000 in
set_option maxRecDepth 100000 in
theorem rone_any (l : List UInt8) (k : Nat) (h : k < l.length) (hs : l.length ≤ 1000000000000) (w : World) :
    Calls Try.prog 32 #[.string (bs l), .int .i64 (k : Int)] w fun e w' => e = .returned (.tuple #[.int .i32 ((Lib.decodeL (l.drop k)).1 : Int), .int .i64 ((Lib.decodeL (l.drop k)).2 : Int)]) ∧ Below w.heap.size w w' := by
  have hfr := run_from (S := l) (i := k) (by omega) w
  have hsz := bs_size l
  obtain ⟨T, hT⟩ : ∃ T, T = l.drop k := ⟨_, rfl⟩
  have hTl : T.length = l.length - k := by rw [hT, List.length_drop]
  rw [← hT] at hfr ⊢
  clear hT
  obtain ⟨x, n, hn, hle, hd, _⟩ := rune_at (l := T) (pos := 0) (by omega)
  rw [Nat.zero_add] at hle
  have hde : Hid (Lib.decodeL T = (x, n)) := Lib.hid (by rw [← hd, ← runes_next.decodeL_drop' T 0, List.drop_zero])
  rw [hde.out]
  go_enter Try.func32, Try.ntmps32
  go_wp2
  go_loopw [7, 6] (fun o m wr => ∃ (pos : Nat), Hid (wr.heap[w.heap.size]? = some (.stringIter (bs T) pos)) ∧ Below w.heap.size w wr ∧ (pos = 0 ∨ pos = n ∧ o = .int .i32 (x : Int) ∧ m = .int .i64 ((l.length : Int) - k)))
    (fun _ _ wr => T.length - wr.iterPos w.heap.size)
  case atStart => exact ⟨0, Lib.hid (iter_new _ _ _ rfl), ext_alloc _ _, .inl rfl⟩
  case round =>
    obtain ⟨pos, hit, hb, rfl | ⟨rfl, rfl, rfl⟩⟩ := hrel
    · have hnx := run_next_rune hit.out (show 0 < T.length by omega) hd
      replace hd := Lib.hid hd
      have hit2 := Lib.hid (Lib.iterAt_heap wr w.heap.size (bs T) 0 n hit.out)
      have hb2 := Lib.below_iterAt hb (k := w.heap.size) (Nat.le_refl _) (bs T) n
      have hpos := Lib.hid (show wr.iterPos w.heap.size = 0 by simp only [World.iterPos, hit.out])
      have hpos2 := Lib.hid (show (wr.iterAt w.heap.size (bs T) n).iterPos w.heap.size = n by simp only [World.iterPos, hit2.out])
      go_wp2
      go_roundw
      case rel => exact ⟨n, hit2, hb2, .inr ⟨rfl, rfl, by go_num⟩⟩
      case measure => rw [hpos.out, hpos2.out]; omega
    · by_cases hp : pos < T.length
      · obtain ⟨x2, n2, _, _, hd2, _⟩ := rune_at (l := T) (pos := pos) hp
        have hnx := run_next_rune hit.out hp hd2
        replace hd := Lib.hid hd
        replace hd2 := Lib.hid hd2
        have hb2 := Lib.below_iterAt hb (k := w.heap.size) (Nat.le_refl _) (bs T) (pos + n2)
        go_wp2
        go_ret2
        exact ⟨rfl, hb2⟩
      · have hnx := run_next_done hit.out hp
        replace hd := Lib.hid hd
        have he : ((l.length : Int) - k) = pos := by omega
        rw [he]
        go_wp2
        go_ret2
        exact ⟨rfl, hb⟩

/-- what Next answers -/
def nextV (l : List UInt8) (k : Nat) : Value := .tuple #[.int .i32 ((Es.next l k).1 : Int), .int .i64 ((Es.next l k).2.1 : Int), .bool (Es.next l k).2.2]
theorem nextV_out {l : List UInt8} {k : Nat} (h : l.length ≤ k) : nextV l k = .tuple #[.int .i32 0, .int .i64 (l.length : Int), .bool false] := by
  unfold nextV; rw [Es.next_out h]; rfl
theorem nextV_yes {l : List UInt8} {k : Nat} (h : k + 1 < l.length) (h1 : l[k] = 92) (h2 : Es.asc l[k + 1] = true) : nextV l k = .tuple #[.int .i32 (l[k + 1].toNat : Int), .int .i64 ((k : Int) + 2), .bool true] := by
  have hd : l.drop k = l[k] :: l[k + 1] :: l.drop (k + 2) := by rw [List.drop_eq_getElem_cons (by omega), List.drop_eq_getElem_cons (by omega)]
  have he : Es.isEsc (l.drop k) = true := by rw [hd]; simp [Es.isEsc, h1, h2]
  unfold nextV; rw [Es.next_in (by omega), Es.step_yes he, hd]; rfl
theorem nextV_no {l : List UInt8} {k : Nat} (h : k < l.length) (he : Es.isEsc (l.drop k) = false) : nextV l k = .tuple #[.int .i32 ((Lib.decodeL (l.drop k)).1 : Int), .int .i64 ((k : Int) + (Lib.decodeL (l.drop k)).2), .bool false] := by
  unfold nextV; rw [Es.next_in h, Es.step_no he]; simp
theorem isEsc_no {l : List UInt8} {k : Nat} (h : k < l.length) (h1 : l[k] ≠ 92 ∨ l.length ≤ k + 1 ∨ ∃ h : k + 1 < l.length, Es.asc l[k + 1] = false) : Es.isEsc (l.drop k) = false := by
  rw [List.drop_eq_getElem_cons h]
  rcases h1 with h1 | h1 | ⟨h1, h2⟩
  · exact Es.isEsc_high h1
  · rw [List.drop_eq_nil_of_le h1]; rfl
  · rw [List.drop_eq_getElem_cons h1]; simp [Es.isEsc, h2]

set_option maxHeartbeats 4000000 in
set_option maxRecDepth 100000 in
theorem rnext_any (l : List UInt8) (at_ : Int) (hs : l.length ≤ 1000000000000) (w : World) :
    Calls Try.prog 35 #[.string (bs l), .int .i64 at_] w fun e w' => e = .returned (nextV l at_.toNat) ∧ Below w.heap.size w w' := by
  have hsz := bs_size l
  obtain ⟨k, hk⟩ : ∃ k, k = at_.toNat := ⟨_, rfl⟩
  have hmx : max at_ 0 = (k : Int) := by omega
  have hmx2 : (if at_ < 0 then 0 else at_) = (k : Int) := by omega
  rw [← hk]
  by_cases hin : k < l.length
  · have hix := run_byte hin
    have hdl : k + (Lib.decodeL (l.drop k)).2 ≤ l.length := by
      have := Lib.decodeL_le (l.drop k) (Es.drop_ne hin)
      rw [List.length_drop] at this; omega
    by_cases h92 : l[k] = 92
    · have ht : ((l[k].toNat : Int) == 92) = true := by rw [h92]; rfl
      by_cases hk1 : k + 1 < l.length
      · have hix1 : ∀ w : World, (Instr.index 9 (.string (bs l)) (.int .i64 ((k : Int) + 1))).run Try.prog w = .ok (.int .u8 (l[k + 1].toNat : Int)) w := fun w => run_byte_at hk1 (by omega) w
        have hb8 := l[k + 1].toNat_lt
        cases hasc : Es.asc l[k + 1] with
        | true =>
          have ha : asciiB (l[k + 1].toNat : Int) = true := hasc
          rw [nextV_yes hk1 h92 hasc]
          replace hasc := Lib.hid hasc
          replace hk := Lib.hid hk
          go_enter Try.func35, Try.ntmps35
          go_wp2_with (go_at_call 14; refine (rascii_any _ _).mono ?_; rintro e w1 ⟨rfl, rfl⟩; rw [ha])
          go_ret3
          exact ⟨rfl, Below.refl _ _⟩
        | false =>
          have ha : asciiB (l[k + 1].toNat : Int) = false := hasc
          rw [nextV_no hin (isEsc_no hin (.inr (.inr ⟨hk1, hasc⟩)))]
          replace hasc := Lib.hid hasc
          replace hk := Lib.hid hk
          go_enter Try.func35, Try.ntmps35
          go_wp2_with (first | (go_at_call 14; refine (rascii_any _ _).mono ?_; rintro e w1 ⟨rfl, rfl⟩; rw [ha]) | (go_at_call 32; refine (rone_any l k hin hs _).mono ?_; rintro e w2 ⟨rfl, hb⟩))
          go_ret3
          exact ⟨rfl, hb⟩
      · rw [nextV_no hin (isEsc_no hin (.inr (.inl (by omega))))]
        replace hk := Lib.hid hk
        go_enter Try.func35, Try.ntmps35
        go_wp2_with (first | (go_at_call 32; refine (rone_any l k hin hs _).mono ?_; rintro e w2 ⟨rfl, hb⟩))
        go_ret3
        exact ⟨rfl, hb⟩
    · have ht : ((l[k].toNat : Int) == 92) = false := byte_ne (n := 92) (by omega) h92
      rw [nextV_no hin (isEsc_no hin (.inl h92))]
      replace hk := Lib.hid hk
      go_enter Try.func35, Try.ntmps35
      go_wp2_with (first | (go_at_call 32; refine (rone_any l k hin hs _).mono ?_; rintro e w2 ⟨rfl, hb⟩))
      go_ret3
      exact ⟨rfl, hb⟩
  · rw [nextV_out (by omega)]
    replace hk := Lib.hid hk
    go_enter Try.func35, Try.ntmps35
    go_wp2
    go_ret3
    exact ⟨rfl, Below.refl _ _⟩

set_option maxHeartbeats 2000000 in
set_option maxRecDepth 100000 in
theorem rplain_any (l : List UInt8) (w : World) (hs : l.length ≤ 1000000000) :
    Calls Try.prog 36 #[.string (bs l)] w fun e w' => e = .returned (.string (bs (Ru.enc (Es.plain l)))) ∧ Below w.heap.size w w' := by
  have hsz := bs_size l
  go_enter Try.func36, Try.ntmps36
  go_wp2
  go_loopw [3, 4] (fun v i wr => ∃ (k : Nat) (D : List Nat), k ≤ l.length ∧ D.length ≤ k ∧ i = .int .i64 k ∧ Hid (D ++ Es.plain (l.drop k) = Es.plain l) ∧ wr.ownsRow w.heap.size 21 1 v D.length (rcells D) ∧ Below w.heap.size w wr)
    (fun _ i _ => l.length - (intOf i).toNat)
  case atStart => exact ⟨0, [], Nat.zero_le _, Nat.zero_le _, rfl, Lib.hid rfl, World.ownsRow_nil _ _ _ _, Below.refl _ _⟩
  case round =>
    obtain ⟨k, D, hk, hDk, rfl, hD, hown, hb⟩ := hrel
    by_cases hp : k < l.length
    · obtain ⟨hm1, hm2⟩ := Es.next_more hp
      have hD2 : Hid ((D ++ [(Es.next l k).1]) ++ Es.plain (l.drop (Es.next l k).2.1) = Es.plain l) := Lib.hid (by rw [← hD.out, Es.plain_at hp, List.append_assoc]; rfl)
      have hV : nextV l k = .tuple #[.int .i32 ((Es.next l k).1 : Int), .int .i64 ((Es.next l k).2.1 : Int), .bool (Es.next l k).2.2] := rfl
      have hcall := fun w => rnext_any l (k : Int) (by omega) w
      rw [show ((k : Int)).toNat = k from by omega, hV] at hcall
      clear hV
      obtain ⟨x, hx⟩ : ∃ x, x = (Es.next l k).1 := ⟨_, rfl⟩
      obtain ⟨n, hn⟩ : ∃ n, n = (Es.next l k).2.1 := ⟨_, rfl⟩
      obtain ⟨o, ho⟩ : ∃ o, o = (Es.next l k).2.2 := ⟨_, rfl⟩
      rw [← hx, ← hn, ← ho] at hcall
      rw [← hx, ← hn] at hD2
      rw [← hn] at hm1 hm2
      clear hx hn ho
      go_wp2_with fail
      refine (hcall _).mono ?_
      rintro e w1 ⟨rfl, hb1⟩
      clear hcall
      have hown1 := own_below hown hb1
      have hb1' := hb.trans (hb1.mono hb.size)
      clear hown
      have hz1 : w.heap.size ≤ w1.heap.size := hb1'.size
      go_wp2_with (at_builtin; refine wpList_app_new rfl (.tmp 19) (.tmp 21) rfl runeEI rfl hown1 rfl rfl rfl (by simp; rfl) (by omega) (by omega) hz1 ?_; intro v2 w2 hown3 hg hb3)
      go_roundw
      case rel => exact ⟨n, D ++ [x], hm2, by simp; omega, rfl, hD2, by simpa [rcells] using hown3, hb1'.trans hb3⟩
      case measure => simp [intOf]; omega
    · have hDe : D = Es.plain l := by
        rw [← hD.out, List.drop_eq_nil_of_le (by omega), Es.plain_nil, List.append_nil]
      subst hDe
      clear hD
      obtain ⟨A, c, rfl, hc⟩ := own_shape hown
      have hcv := run_runes (c := c) (Row.own hown) 65 21 9 Try.underlying65 Try.underlying21 Try.underlying9
      go_wp2
      go_ret
      exact ⟨rfl, hb⟩

end Go.Proofs.Ytjkmhcolnidflaa
