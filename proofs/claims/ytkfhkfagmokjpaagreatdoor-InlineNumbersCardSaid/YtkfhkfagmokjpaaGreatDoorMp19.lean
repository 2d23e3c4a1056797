/- Package runes: the first rune of a text, the last one. Package esc: one contract for each function. Package runes: Fold, where package esc's laws are at hand; the small letters of a folded text. -/
import Derived.Test.YtkfhkfagmokjpaaGreatDoorMp11
import Derived.Test.YtkfhkfagmokjpaaGreatDoorMp03
import Derived.Test.YtkfhkfagmokjpaaGreatDoorMp18
namespace Go.Proofs.YtkfhkfagmokjpaaGreatDoor
open Go.RowKit

/-- the first rune, the last one -/
def hdR (l : List UInt8) : Nat := (Ru.runes l).headD 0
def ltR (l : List UInt8) : Nat := (Ru.runes l).getLastD 0

set_option maxHeartbeats 1000000 in
theorem first_none (w : World) :
    Calls Tryz.prog 96 #[.string (bs [])] w fun e w' => e = .returned (.tuple #[.int .i32 0, .bool false]) ∧ Below w.heap.size w w' := by
  go_enter Tryz.func96, Tryz.ntmps96
  go_wp2
  go_loopw [] (fun wr => Hid (wr.heap[w.heap.size]? = some (.stringIter (bs []) 0)) ∧ Below w.heap.size w wr) (fun _ => 0)
  case atStart => exact ⟨Lib.hid (iter_new _ _ _ rfl), ext_alloc _ _⟩
  case round =>
    obtain ⟨hit, hb⟩ := hrel
    have hnx := run_next_done hit.out (Nat.lt_irrefl 0)
    go_wp2
    go_ret2
    exact ⟨rfl, hb⟩

set_option maxHeartbeats 1000000 in
theorem first_some (l : List UInt8) (hne : l ≠ []) (w : World) :
    Calls Tryz.prog 96 #[.string (bs l)] w fun e w' => e = .returned (.tuple #[.int .i32 (hdR l : Int), .bool true]) ∧ Below w.heap.size w w' := by
  have hp : 0 < l.length := List.length_pos_iff.2 hne
  obtain ⟨x, k, hk, hv, hd, hD2⟩ := runes_next (D := []) hp rfl
  have hx : hdR l = x := by unfold hdR; rw [← hD2]; rfl
  replace hx := Lib.hid hx
  replace hne := Lib.hid hne
  clear hD2
  go_enter Tryz.func96, Tryz.ntmps96
  go_wp2
  go_loopw [] (fun wr => Hid (wr.heap[w.heap.size]? = some (.stringIter (bs l) 0)) ∧ Below w.heap.size w wr) (fun _ => 0)
  case atStart => exact ⟨Lib.hid (iter_new _ _ _ rfl), ext_alloc _ _⟩
  case round =>
    obtain ⟨hit, hb⟩ := hrel
    have hnx := run_next_rune hit.out hp hd
    replace hd := Lib.hid hd
    go_wp2
    go_ret2
    exact ⟨by rw [hx.out]; rfl, Lib.below_iterAt hb (Nat.le_refl _) _ _⟩

/-- the tables of unicode/utf8, as they lie -/
abbrev Tabs (w : World) : Prop := Lib.Utf8Tabs 0 1 w

set_option maxHeartbeats 1000000 in
theorem last_none (w : World) :
    Calls Tryz.prog 95 #[.string (bs [])] w fun e w' => e = .returned (.tuple #[.int .i32 0, .bool false]) ∧ Below w.heap.size w w' := by
  have h0 : (bs []).toList = [] := bs_toList []
  go_enter Tryz.func95, Tryz.ntmps95
  go_wp2
  go_ret2
  exact ⟨rfl, Below.refl _ _⟩

set_option maxHeartbeats 1000000 in
theorem last_some (l : List UInt8) (hne : l ≠ []) (w : World) (hs : l.length ≤ 1000000000000) (hT : Tabs w) :
    Calls Tryz.prog 95 #[.string (bs l)] w fun e w' => e = .returned (.tuple #[.int .i32 (ltR l : Int), .bool true]) ∧ Below w.heap.size w w' := by
  have h0 : (bs l).toList.isEmpty = false := by rw [bs_toList]; simpa using hne
  have hx : ((Lib.decodeLastL (bs l).data.toList).1) = ltR l := by
    unfold ltR
    have := Ru.runes_last l hne
    rw [List.getLastD_eq_getLast?, this]
    simp [bs]
  replace hx := Lib.hid hx
  replace hne := Lib.hid hne
  replace hT := Lib.hid hT
  go_enter Tryz.func95, Tryz.ntmps95
  go_wp2_with (go_at_call 100; refine (Tryz.utf8_DecodeLastRuneInString (bs l) _ (by rw [bs_size]; omega) hT.out).mono ?_; rintro e w' ⟨rfl, hb⟩)
  go_ret2
  exact ⟨by rw [hx.out]; rfl, hb⟩
theorem tabs_below {w w' : World} (h : Tabs w) (hb : Below w.heap.size w w') : Tabs w' := Utf8Tabs_below h hb
end Go.Proofs.YtkfhkfagmokjpaaGreatDoor

namespace Go.Proofs.YtkfhkfagmokjpaaGreatDoor
open Go.RowKit

/-- what the program's functions ask of the world: here nothing -/
abbrev EsT (_ : World) : Prop := True
set_option maxHeartbeats 1000000 in
theorem sign_any (r : Int) (w : World) :
    Calls Tryz.prog 87 #[.int .i32 r] w fun e w' => e = .returned (.bool (asciiB r)) ∧ w = w' := by
  have hp : r < 128 → punctB r = asciiB r := by
    intro h
    rw [Bool.eq_iff_iff]; simp only [punctB, asciiB, decide_eq_true_iff]; omega
  have ha : ¬ r < 128 → asciiB r = false := by
    intro h
    rw [← Bool.not_eq_true]; simp only [asciiB, decide_eq_true_iff]; omega
  by_cases h : r < 128
  · have hpp := hp h
    clear hp ha
    obtain ⟨v, hv⟩ : ∃ v, v = asciiB r := ⟨_, rfl⟩
    rw [← hv] at hpp ⊢
    clear hv
    go_enter Tryz.func87, Tryz.ntmps87
    go_wp2_with (go_at_call 86; refine (punct_any _ _).mono ?_; rintro e w1 ⟨rfl, rfl⟩; rw [hpp])
    go_ret
    exact ⟨rfl, rfl⟩
  · rw [ha h]
    clear hp ha
    go_enter Tryz.func87, Tryz.ntmps87
    go_wp2
    go_ret
    exact ⟨rfl, rfl⟩

theorem bcells_append (a b : List UInt8) : bcells (a ++ b) = bcells a ++ bcells b := by simp [bcells]
theorem bcells_len (l : List UInt8) : (bcells l).length = l.length := by simp [bcells]
theorem fresh_bld (w : World) : IsB w.heap.size w.heap.size (bcells []) (w.alloc (.cells #[.pointer none, .slice none 0 0] 45)) :=
  Lib.IsBuilderF.of (Lib.fresh_isBuilder 45 5 w)
theorem bld_string (B b : Nat) (l : List UInt8) (w : World) (h : IsB B b (bcells l) w) (hBw : B ≤ w.heap.size) :
    Calls Tryz.prog 20 #[.pointer (some ⟨b, 0, none⟩)] w fun e w' => e = .returned (.string (bs l)) ∧ Below B w w' :=
  (Tryz.Builder_String_any_k B b l w h hBw).mono fun _ _ ⟨he, _, hb, _⟩ => ⟨he, hb⟩
theorem isB_below1 {B b : Nat} {p : Value} {xs : List Value} {w w' : World} (h : Lib.BuilderAtF 45 5 B b p xs w) (hb : Below w.heap.size w w') : Lib.BuilderAtF 45 5 B b p xs w' := by
  have hlt := h.lt
  obtain ⟨hB, v, hv, hown, hne⟩ := h
  exact ⟨hB, v, (hb.block b hlt).trans hv, hown.kept (row := none) ⟨hb.os, hb.tape, hb.output, hb.size, fun k hk _ => hb.block k hk⟩ (Classical.em _), hne⟩
theorem isB_below {B b : Nat} {xs : List Value} {w w' : World} (h : IsB B b xs w) (hb : Below w.heap.size w w') : IsB B b xs w' :=
  h.elim (fun x => .inl (isB_below1 x hb)) (fun x => .inr (isB_below1 x hb))
/-- what Next looks at: the first rune, the second -/
theorem isEsc_first {l : List UInt8} {k x n : Nat} (h : k < l.length) (hd : Lib.decodeL (l.drop k) = (x, n)) (hx : x ≠ 92) : Es.isEsc (l.drop k) = false := by
  refine isEsc_no h (.inl fun e => hx ?_)
  rw [List.drop_eq_getElem_cons h, Es.decodeL_low (by rw [e]; decide)] at hd
  injection hd with h1 _
  rw [← h1, e]; rfl
theorem first_92 {l : List UInt8} {k n : Nat} (h : k < l.length) (hd : Lib.decodeL (l.drop k) = (92, n)) : l[k] = 92 ∧ n = 1 := by
  obtain ⟨x, m, _, _, _, _, hd2, hc⟩ := first_rune h
  rw [hd] at hd2
  injection hd2 with e1 e2
  subst e1 e2
  rcases hc with ⟨_, e, e'⟩ | ⟨_, e, _⟩
  · exact ⟨UInt8.toNat_inj.1 (by rw [← e]; rfl), e'⟩
  · omega
theorem second_sign {l : List UInt8} {k y m : Nat} (h : k < l.length) (hd : Lib.decodeL (l.drop k) = (y, m)) : (asciiB (y : Int) = true → Es.asc l[k] = true ∧ y = l[k].toNat) ∧ (asciiB (y : Int) = false → Es.asc l[k] = false) := by
  obtain ⟨x, n, _, _, _, _, hd2, hc⟩ := first_rune h
  rw [hd] at hd2
  injection hd2 with e1 e2
  subst e1 e2
  rcases hc with ⟨_, e, e'⟩ | ⟨h1, e, _⟩
  · subst e
    exact ⟨fun h => ⟨h, rfl⟩, fun h => h⟩
  · refine ⟨fun h => ?_, fun _ => Es.asc_high h1⟩
    unfold asciiB at h
    rw [decide_eq_true_iff] at h
    omega

set_option maxHeartbeats 8000000 in
set_option maxRecDepth 100000 in
theorem pnext_any (l : List UInt8) (at_ : Int) (hs : l.length ≤ 1000000000) (w : World) (_hT : EsT w) :
    Calls Tryz.prog 67 #[.string (bs l), .int .i64 at_] w fun e w' => e = .returned (nextV l at_.toNat) ∧ Below w.heap.size w w' := by
  have hsz := bs_size l
  obtain ⟨p, hk⟩ : ∃ p, p = at_.toNat := ⟨_, rfl⟩
  have hmx : max at_ 0 = (p : Int) := by omega
  have hmx2 : (if at_ < 0 then 0 else at_) = (p : Int) := by omega
  rw [← hk]
  replace hk := Lib.hid hk
  by_cases hin : p < l.length
  · obtain ⟨x, n, hn, hnl, hd, hvx, hdL, _⟩ := first_rune hin
    have hfr := run_from (S := l) (i := p) (by omega)
    obtain ⟨V, hV⟩ : ∃ V, V = nextV l p := ⟨_, rfl⟩
    rw [← hV]
    have hone : Hid (l.length ≤ p + n → V = .tuple #[.int .i32 (x : Int), .int .i64 (l.length : Int), .bool false]) := Lib.hid (by
      intro h
      have hes : Es.isEsc (l.drop p) = false := by
        by_cases h92 : x = 92
        · subst h92
          obtain ⟨h1, h2⟩ := first_92 hin hdL
          exact isEsc_no hin (.inr (.inl (by omega)))
        · exact isEsc_first hin hdL h92
      rw [hV, nextV_no hin hes, hdL, show ((p : Int) + ((x, n) : Nat × Nat).2) = (l.length : Int) from by simp only; omega])
    have htwo : Hid (∀ (h : p + n < l.length) (y m : Nat), Lib.decodeL (l.drop (p + n)) = (y, m) →
        (x ≠ 92 ∨ asciiB (y : Int) = false → V = .tuple #[.int .i32 (x : Int), .int .i64 ((p : Int) + n), .bool false]) ∧
        (x = 92 → asciiB (y : Int) = true → n = 1 ∧ V = .tuple #[.int .i32 (y : Int), .int .i64 ((p : Int) + 2), .bool true])) := Lib.hid (by
      intro h y m hy
      have hss := second_sign h hy
      constructor
      · intro h1
        have hes : Es.isEsc (l.drop p) = false := by
          by_cases h92 : x = 92
          · subst h92
            obtain ⟨h3, rfl⟩ := first_92 hin hdL
            exact isEsc_no hin (.inr (.inr ⟨h, hss.2 (h1.resolve_left (by simp))⟩))
          · exact isEsc_first hin hdL h92
        rw [hV, nextV_no hin hes, hdL]
      · intro h92 ha
        subst h92
        obtain ⟨h3, rfl⟩ := first_92 hin hdL
        obtain ⟨h4, h5⟩ := hss.1 ha
        exact ⟨rfl, by rw [hV, nextV_yes h h3 h4, h5]⟩)
    clear hV hdL
    obtain ⟨T, hT⟩ : ∃ T, T = l.drop p := ⟨_, rfl⟩
    have hTl : T.length = l.length - p := by rw [hT, List.length_drop]
    have hdT : Utf8.decode (bs T) 0 = (x, n) := by
      rw [← runes_next.decodeL_drop' T 0, List.drop_zero, hT, runes_next.decodeL_drop' l p]; exact hd
    have hdT2 : Hid (∀ q, Utf8.decode (bs T) q = Lib.decodeL (l.drop (p + q))) := Lib.hid (by
      intro q
      rw [← runes_next.decodeL_drop' T q, hT, List.drop_drop])
    rw [← hT] at hfr
    clear hT hd
    go_enter Tryz.func67, Tryz.ntmps67
    go_wp2
    go_loopw [7] (fun f wr => ∃ (pos : Nat), Hid (wr.heap[w.heap.size]? = some (.stringIter (bs T) pos)) ∧ Below w.heap.size w wr ∧ (pos = 0 ∨ pos = n ∧ f = .int .i32 (x : Int)))
      (fun _ wr => T.length - wr.iterPos w.heap.size)
    case atStart => exact ⟨0, Lib.hid (iter_new _ _ _ rfl), ext_alloc _ _, .inl rfl⟩
    case round =>
      obtain ⟨pos, hit, hb, rfl | ⟨rfl, rfl⟩⟩ := hrel
      · have hnx := run_next_rune hit.out (show 0 < T.length by omega) hdT
        replace hdT := Lib.hid hdT
        have hit2 := Lib.hid (Lib.iterAt_heap wr w.heap.size (bs T) 0 n hit.out)
        have hb2 := Lib.below_iterAt hb (k := w.heap.size) (Nat.le_refl _) (bs T) n
        have hpos := Lib.hid (show wr.iterPos w.heap.size = 0 by simp only [World.iterPos, hit.out])
        have hpos2 := Lib.hid (show (wr.iterAt w.heap.size (bs T) n).iterPos w.heap.size = n by simp only [World.iterPos, hit2.out])
        go_wp2
        go_roundw
        case rel => exact ⟨n, hit2, hb2, .inr ⟨rfl, rfl⟩⟩
        case measure => rw [hpos.out, hpos2.out]; omega
      · by_cases hp : pos < T.length
        · obtain ⟨y, m, hm, hml, hd2, hvy, hdy, _⟩ := first_rune hp
          have hy : Lib.decodeL (l.drop (p + pos)) = (y, m) := by rw [← hdT2.out, hd2]
          have h2 := htwo.out (by omega) y m hy
          have hnx := run_next_rune hit.out hp hd2
          replace hd2 := Lib.hid hd2
          replace hdT := Lib.hid hdT
          replace hdy := Lib.hid hdy
          replace hy := Lib.hid hy
          have hb2 := Lib.below_iterAt hb (k := w.heap.size) (Nat.le_refl _) (bs T) (pos + m)
          have hpn : ((pos : Int) == 0) = false := by rw [beq_eq_false_iff_ne]; omega
          by_cases hx92 : x = 92
          · have h92 : ((x : Int) == 92) = true := by rw [hx92]; rfl
            cases ha : asciiB (y : Int) with
            | true =>
              obtain ⟨hn1, hV⟩ := h2.2 hx92 ha
              replace hV := Lib.hid hV
              have hp1 : (p : Int) + 2 = (p : Int) + pos + 1 := by omega
              rw [hp1] at hV
              replace hn1 := Lib.hid hn1
              replace hx92 := Lib.hid hx92
              clear h2 hp1
              go_wp2_with (go_at_call 87; refine (sign_any _ _).mono ?_; rintro e w1 ⟨rfl, rfl⟩; rw [ha])
              go_ret3
              exact ⟨congrArg Ending.returned hV.out.symm, hb2⟩
            | false =>
              have hV := Lib.hid (h2.1 (.inr ha))
              clear h2
              replace hx92 := Lib.hid hx92
              go_wp2_with (go_at_call 87; refine (sign_any _ _).mono ?_; rintro e w1 ⟨rfl, rfl⟩; rw [ha])
              go_ret3
              exact ⟨congrArg Ending.returned hV.out.symm, hb2⟩
          · have h92 : ((x : Int) == 92) = false := by rw [beq_eq_false_iff_ne]; omega
            have hV := Lib.hid (h2.1 (.inl hx92))
            clear h2
            replace hx92 := Lib.hid hx92
            go_wp2
            go_ret3
            exact ⟨congrArg Ending.returned hV.out.symm, hb2⟩
        · have hnx := run_next_done hit.out hp
          replace hdT := Lib.hid hdT
          have hV := Lib.hid (hone.out (by omega))
          go_wp2
          go_ret3
          exact ⟨congrArg Ending.returned hV.out.symm, hb⟩
  · rw [nextV_out (by omega)]
    go_enter Tryz.func67, Tryz.ntmps67
    go_wp2
    go_ret3
    exact ⟨rfl, Below.refl _ _⟩

theorem builder_rune {B b : Nat} {X : List Nat} {z : Nat} {wz : World} (h : IsB B b (bcells (Ru.enc X) ++ Lib.runeCells (z : Int)) wz) : IsB B b (bcells (Ru.enc (X ++ [z]))) wz := by
  rw [Ru.enc_snoc, bcells_append, show bcells (Lib.encodeRune (z : Int)) = Lib.runeCells (z : Int) from Lib.byteCells_encodeRune _]; exact h

set_option maxHeartbeats 4000000 in
set_option maxRecDepth 100000 in
theorem pplain_any (l : List UInt8) (w : World) (hs : l.length ≤ 1000000000) (_hT : EsT w) :
    Calls Tryz.prog 82 #[.string (bs l)] w fun e w' => e = .returned (.string (bs (Ru.enc (Es.plain l)))) ∧ Below w.heap.size w w' := by
  have hsz := bs_size l
  go_enter Tryz.func82, Tryz.ntmps82
  go_wp2
  go_loopw [4] (fun i wr => ∃ (k : Nat) (D : List Nat), k ≤ l.length ∧ D.length ≤ k ∧ i = .int .i64 k ∧ Hid (D ++ Es.plain (l.drop k) = Es.plain l) ∧ IsB w.heap.size w.heap.size (bcells (Ru.enc D)) wr ∧ Below w.heap.size w wr)
    (fun i _ => l.length - (intOf i).toNat)
  case atStart => exact ⟨0, [], Nat.zero_le _, Nat.zero_le _, rfl, Lib.hid rfl, fresh_bld w, ext_alloc _ _⟩
  case round =>
    obtain ⟨k, D, hk, hDk, rfl, hD, hI, hb⟩ := hrel
    by_cases hp : k < l.length
    · obtain ⟨hm1, hm2⟩ := Es.next_more hp
      have hD2 : Hid ((D ++ [(Es.next l k).1]) ++ Es.plain (l.drop (Es.next l k).2.1) = Es.plain l) := Lib.hid (by rw [← hD.out, Es.plain_at hp, List.append_assoc]; rfl)
      have hV : nextV l k = .tuple #[.int .i32 ((Es.next l k).1 : Int), .int .i64 ((Es.next l k).2.1 : Int), .bool (Es.next l k).2.2] := rfl
      have hvx := Es.next_vr l k
      have hcall := fun w => pnext_any l (k : Int) (by omega) w trivial
      rw [show ((k : Int)).toNat = k from by omega, hV] at hcall
      clear hV
      obtain ⟨x, hx⟩ : ∃ x, x = (Es.next l k).1 := ⟨_, rfl⟩
      obtain ⟨n, hn⟩ : ∃ n, n = (Es.next l k).2.1 := ⟨_, rfl⟩
      obtain ⟨o, ho⟩ : ∃ o, o = (Es.next l k).2.2 := ⟨_, rfl⟩
      rw [← hx, ← hn, ← ho] at hcall
      rw [← hx, ← hn] at hD2
      rw [← hn] at hm1 hm2
      rw [← hx] at hvx
      clear hx hn ho
      have hx1 : x ≤ 1114111 := by unfold Ru.vr at hvx; omega
      clear hvx
      have hl4 := (Ru.enc_len D).2
      have hl1 := bcells_len (Ru.enc D)
      go_wp2_with fail
      refine (hcall _).mono ?_
      rintro e w1 ⟨rfl, hb1⟩
      clear hcall
      have hI1 : IsB w.heap.size w.heap.size (bcells (Ru.enc D)) w1 := isB_below hI hb1
      have hb1' := hb.trans (hb1.mono hb.size)
      have hz1 : w.heap.size ≤ w1.heap.size := hb1'.size
      clear hI
      go_wp2_with fail
      refine (writeRune_any w.heap.size w.heap.size _ (x : Int) (by omega) (by omega) _ hI1 (by omega) hz1).mono ?_
      rintro e w2 ⟨⟨v, rfl⟩, h2, b2, k2⟩
      have h2' := builder_rune h2
      clear h2 k2
      go_wp2
      go_roundw
      case rel => exact ⟨n, D ++ [x], hm2, by simp; omega, rfl, hD2, h2', hb1'.trans b2⟩
      case measure => simp [intOf]; omega
    · have hDe : D = Es.plain l := by
        rw [← hD.out, List.drop_eq_nil_of_le (by omega), Es.plain_nil, List.append_nil]
      subst hDe
      clear hD
      have hz : w.heap.size ≤ wr.heap.size := hb.size
      go_wp2_with fail
      refine (bld_string w.heap.size w.heap.size _ _ hI hz).mono ?_
      rintro e w3 ⟨rfl, b3⟩
      go_wp2
      go_ret
      exact ⟨rfl, hb.trans b3⟩
end Go.Proofs.YtkfhkfagmokjpaaGreatDoor

namespace Go.Proofs.YtkfhkfagmokjpaaGreatDoor
open Go.RowKit

end Go.Proofs.YtkfhkfagmokjpaaGreatDoor
