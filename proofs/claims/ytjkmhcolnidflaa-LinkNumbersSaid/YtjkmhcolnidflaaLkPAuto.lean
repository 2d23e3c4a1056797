/- Package link: Auto. -/
import Derived.Test.YtjkmhcolnidflaaLkPSch
namespace Go.Proofs.Ytjkmhcolnidflaa
open Go.RowKit

theorem starts_scheme {l : List UInt8} {k : Nat} (hk : k < l.length) (h60 : l[k] = 60) : Lk.starts l k = schemeOk (l.drop (k + 1)) := by
  unfold Lk.starts schemeOk
  have e : (l.drop (k + 1)).getD (Lk.letters (l.drop (k + 1))) 0 = l.getD (k + 1 + Lk.letters (l.drop (k + 1))) 0 := by
    rw [List.getD_eq_getElem?_getD, List.getD_eq_getElem?_getD, List.getElem?_drop]
  rw [Bool.eq_iff_iff, decide_eq_true_iff, decide_eq_true_iff, e, getD_at hk]
  exact ⟨fun h => h.2.2, fun h => ⟨hk, h60, h⟩⟩
theorem ends_colon {l : List UInt8} {i : Nat} (h : i < l.length) (h58 : l[i] = 58) : Lk.ends l i = Lk.ends l (i + 1) := by
  have hd : Lib.decodeL (l.drop i) = (58, 1) := by
    rw [List.drop_eq_getElem_cons h, Es.decodeL_low (by rw [h58]; decide), h58]; rfl
  rw [Lk.ends_step h, hd, if_neg (by decide), if_neg (by decide)]

set_option maxHeartbeats 8000000 in
set_option maxRecDepth 100000 in
theorem pauto_on (l : List UInt8) (k : Nat) (hk : k < l.length) (hs : l.length ≤ 1000000000) (h60 : l[k] = 60) (w : World) :
    Calls Try.prog 16 #[.string (bs l), .int .i64 (k : Int)] w fun e w' => e = .returned (spanV (Lk.auto l (k : Int))) ∧ Below w.heap.size w w' := by
  have hsz := bs_size l
  have qst := fun w => stands_any l (k : Int) 60 60 rfl hs w
  rw [show stand l (k : Int) 60 = true from by rw [stand_in (by omega) (by simpa using hk)]; simpa using h60] at qst
  have hfr := fun w => run_from_at (S := l) (i := k + 1) (v := (k : Int) + 1) (by omega) (by omega) w
  have hss := starts_scheme hk h60
  have hon := fun h => Lk.auto_on (l := l) (k := k) h rfl
  have hoff := fun h => Lk.auto_off (l := l) (k := k) h
  rw [hss] at hon hoff
  obtain ⟨R, hR⟩ : ∃ R, R = Lk.auto l (k : Int) := ⟨_, rfl⟩
  rw [← hR] at hon hoff ⊢
  have hlen : (l.drop (k + 1)).length = l.length - (k + 1) := by rw [List.length_drop]
  have qsc := fun w => scheme_any (l.drop (k + 1)) w (by omega)
  have h58 : schemeOk (l.drop (k + 1)) = true → k + 1 + Lk.letters (l.drop (k + 1)) < l.length ∧ Lk.ends l (k + 1 + Lk.letters (l.drop (k + 1))) = Lk.ends l (k + 1 + (Lk.letters (l.drop (k + 1)) + 1)) := by
    intro h
    have h3 := (of_decide_eq_true h).2.2
    have hlt : Lk.letters (l.drop (k + 1)) < (l.drop (k + 1)).length := by
      by_cases hc : Lk.letters (l.drop (k + 1)) < (l.drop (k + 1)).length
      · exact hc
      · rw [getD_out hc] at h3; exact absurd h3 (by decide)
    rw [getD_at hlt, List.getElem_drop] at h3
    exact ⟨by omega, ends_colon (by omega) h3⟩
  obtain ⟨n, hn⟩ : ∃ n, n = Lk.letters (l.drop (k + 1)) := ⟨_, rfl⟩
  rw [← hn] at hon h58 qsc
  obtain ⟨o, ho⟩ : ∃ o, o = schemeOk (l.drop (k + 1)) := ⟨_, rfl⟩
  rw [← ho] at hon hoff h58 qsc
  obtain ⟨T, hT⟩ : ∃ T, T = l.drop (k + 1) := ⟨_, rfl⟩
  rw [← hT] at hfr qsc hlen
  replace hon := Lib.hid hon
  replace hoff := Lib.hid hoff
  replace h58 := Lib.hid h58
  replace hT := Lib.hid hT
  clear hR hss h60 hn ho
  have hTs := bs_size T
  cases o with
  | false =>
    have hres : R = none := hoff.out rfl
    subst hres
    go_enter Try.func16, Try.ntmps16
    go_wp2_with fail
    refine (qst _).mono ?_
    rintro e w0 ⟨rfl, rfl⟩
    go_wp2_with fail
    refine (qsc _).mono ?_
    rintro e w1 ⟨⟨m, rfl, _⟩, hb1⟩
    go_wp2
    go_ret3
    exact ⟨rfl, hb1⟩
  | true =>
    obtain ⟨hlt, hen⟩ := h58.out rfl
    obtain ⟨b, hbd⟩ : ∃ b, b = k + 1 + (n + 1) := ⟨_, rfl⟩
    have hR2 : Hid (R = (Lk.ends l b).map fun j => (mid l (k + 1) j, j + 1)) := Lib.hid (by rw [hon.out rfl, hen, hbd])
    have hbl : b ≤ l.length := by omega
    have hfr2 := fun w => run_from_at (S := l) (i := b) (v := (n : Int) + 1 + ((k : Int) + 1)) hbl (by omega) w
    obtain ⟨U, hU⟩ : ∃ U, U = l.drop b := ⟨_, rfl⟩
    have hUl : U.length = l.length - b := by rw [hU, List.length_drop]
    have hUs := bs_size U
    have hUd : Hid (∀ q, Utf8.decode (bs U) q = Lib.decodeL (l.drop (b + q))) := Lib.hid (by
      intro q
      rw [← runes_next.decodeL_drop' U q, hU, List.drop_drop])
    rw [← hU] at hfr2
    have hbi : (b : Int) = (n : Int) + 1 + ((k : Int) + 1) := by omega
    replace hbd := Lib.hid hbd
    replace hU := Lib.hid hU
    clear hon hoff h58 hen
    go_enter Try.func16, Try.ntmps16
    go_wp2_with fail
    refine (qst _).mono ?_
    rintro e w0 ⟨rfl, rfl⟩
    go_wp2_with fail
    refine (qsc _).mono ?_
    rintro e w1 ⟨⟨m, rfl, hm⟩, hb1⟩
    have hmn : (m : Int) = (n : Int) + 1 := by have := hm (by trivial); omega
    rw [hmn]
    clear hm hmn
    have hb1z := hb1.size
    go_wp2_with fail
    go_loopw [] (fun wr => ∃ pos : Nat, pos ≤ U.length ∧ Hid (wr.heap[w1.heap.size]? = some (.stringIter (bs U) pos)) ∧ Hid (Lk.ends l b = Lk.ends l (b + pos)) ∧ Below w.heap.size w wr)
      (fun wr => U.length - wr.iterPos w1.heap.size)
    case atStart => exact ⟨0, by omega, Lib.hid (iter_new _ _ _ rfl), Lib.hid rfl, hb1.alloc hb1.size _⟩
    case round =>
      obtain ⟨pos, hp1, hit, he, hb⟩ := hrel
      by_cases hp : pos < U.length
      · obtain ⟨x, q, hq, hql, hd, hvx, hdL, hc⟩ := first_rune hp
        have hst := Lk.ends_step (l := l) (i := b + pos) (by omega)
        rw [← hUd.out pos, hd, ← he.out] at hst
        simp only at hst
        have hnx := run_next_rune hit.out hp hd
        have hit2 := Lib.hid (Lib.iterAt_heap wr w1.heap.size (bs U) pos (pos + q) hit.out)
        have hb2 := Lib.below_iterAt hb (k := w1.heap.size) (by omega) (bs U) (pos + q)
        have hpos : Hid (wr.iterPos w1.heap.size = pos) := Lib.hid (by simp only [World.iterPos, hit.out])
        have hpos2 : Hid ((wr.iterAt w1.heap.size (bs U) (pos + q)).iterPos w1.heap.size = pos + q) := Lib.hid (by simp only [World.iterPos, hit2.out])
        replace hd := Lib.hid hd
        replace hdL := Lib.hid hdL
        replace hc := Lib.hid hc
        by_cases h62 : x = 62
        · have hres : R = some (mid l (k + 1) (b + pos), b + pos + 1) := by rw [hR2.out, hst, if_pos h62]; rfl
          have t : ((x : Int) == 62) = true := by simp [h62]
          have hcut := fun w => run_mid_at (S := l) (i := k + 1) (j := b + pos) (v := (k : Int) + 1) (u := (n : Int) + 1 + ((k : Int) + 1) + (pos : Int)) (by omega) (by omega) (by omega) (by omega) w
          have hml : (mid l (k + 1) (b + pos)).length ≤ 140737488355328 := by rw [mid_len (by omega)]; omega
          have qcl := fun w => lk_clone_any (mid l (k + 1) (b + pos)) w hml
          obtain ⟨M, hM⟩ : ∃ M, M = mid l (k + 1) (b + pos) := ⟨_, rfl⟩
          rw [← hM] at hcut qcl hres
          have hsp : spanV (some (M, b + pos + 1)) = .tuple #[.string (bs M), .int .i64 ((n : Int) + 1 + ((k : Int) + 1) + (pos : Int) + 1), .bool true] := by
            show Value.tuple #[.string (bs M), .int .i64 ((b + pos + 1 : Nat) : Int), .bool true] = _
            rw [show ((b + pos + 1 : Nat) : Int) = (n : Int) + 1 + ((k : Int) + 1) + (pos : Int) + 1 by omega]
          subst hres
          replace hsp := Lib.hid hsp
          replace h62 := Lib.hid h62
          clear hst he hR2 hM hml
          go_wp2_with fail
          refine (qcl _).mono ?_
          rintro e w4 ⟨rfl, hb4⟩
          replace hb4 := ext_trans hb2 hb4
          go_wp2
          go_ret3
          exact ⟨congrArg Ending.returned hsp.out.symm, hb4⟩
        · have t : ((x : Int) == 62) = false := by rw [beq_eq_false_iff_ne]; omega
          rw [if_neg h62] at hst
          by_cases h60 : x = 60
          · have hres : R = none := by rw [hR2.out, hst, if_pos (.inl h60)]; rfl
            have t2 : ((x : Int) == 60) = true := by simp [h60]
            subst hres
            replace h62 := Lib.hid h62
            replace h60 := Lib.hid h60
            clear hst he hR2
            go_wp2
            go_ret3
            exact ⟨rfl, hb2⟩
          · have t2 : ((x : Int) == 60) = false := by rw [beq_eq_false_iff_ne]; omega
            have qb := fun w => blank_any (x : Int) w
            cases hbl : blankB (x : Int) with
            | true =>
              have hres : R = none := by rw [hR2.out, hst, if_pos (.inr hbl)]; rfl
              rw [hbl] at qb
              subst hres
              replace h62 := Lib.hid h62
              replace h60 := Lib.hid h60
              clear hst he hR2 hbl
              go_wp2_with (go_at_call 29; refine (qb _).mono ?_; rintro e w4 ⟨rfl, rfl⟩)
              go_ret3
              exact ⟨rfl, hb2⟩
            | false =>
              rw [if_neg (by rw [hbl]; simp [h60])] at hst
              rw [hbl] at qb
              have he2 : Hid (Lk.ends l b = Lk.ends l (b + (pos + q))) := Lib.hid (by rw [hst, Nat.add_assoc])
              replace h62 := Lib.hid h62
              replace h60 := Lib.hid h60
              clear hst he hbl
              go_wp2_with (go_at_call 29; refine (qb _).mono ?_; rintro e w4 ⟨rfl, rfl⟩)
              go_roundw
              case rel => exact ⟨pos + q, by omega, hit2, he2, hb2⟩
              case measure => rw [hpos.out, hpos2.out]; omega
      · have hnx := run_next_done hit.out hp
        have hres : R = none := by rw [hR2.out, he.out, Lk.ends_out (by omega)]; rfl
        subst hres
        clear he hR2
        go_wp2
        go_ret3
        exact ⟨rfl, hb⟩

set_option maxHeartbeats 1000000 in
theorem pauto_any (l : List UInt8) (at_ : Int) (hs : l.length ≤ 1000000000) (w : World) :
    Calls Try.prog 16 #[.string (bs l), .int .i64 at_] w fun e w' => e = .returned (spanV (Lk.auto l at_)) ∧ Below w.heap.size w w' := by
  cases h : stand l at_ 60 with
  | true =>
    obtain ⟨k, rfl, hk, h60⟩ := stand_yes h
    exact pauto_on l k hk hs h60 w
  | false =>
    have hno : Lk.auto l at_ = none := by
      apply auto_no
      by_cases h1 : at_ < 0
      · exact .inl h1
      · by_cases h2 : (l.length : Int) ≤ at_
        · exact .inr (.inl ⟨by omega, h2⟩)
        · refine .inr (.inr ⟨by omega, by omega, ?_⟩)
          rw [stand_in (by omega) (by omega)] at h
          simpa using h
    have qst := fun w => stands_any l at_ 60 60 rfl hs w
    rw [h] at qst
    rw [hno]
    clear h hno
    go_enter Try.func16, Try.ntmps16
    go_wp2_with fail
    refine (qst _).mono ?_
    rintro e w0 ⟨rfl, rfl⟩
    go_wp2
    go_ret3
    exact ⟨rfl, Below.refl _ _⟩

/-- where what begins at a place ends -/
def behA (l : List UInt8) (k : Nat) : Nat := match Lk.auto l (k : Int) with | some x => x.2 | none => k + 1
def behC (l : List UInt8) (k : Nat) : Nat := match Cd.span l (k : Int) with | some x => x.2 | none => k + Fn.run 96 (l.drop k)
theorem behA_some {l : List UInt8} {k : Nat} {t : List UInt8} {e : Nat} (h : Lk.auto l (k : Int) = some (t, e)) : behA l k = e := by unfold behA; rw [h]
theorem behA_none {l : List UInt8} {k : Nat} (h : Lk.auto l (k : Int) = none) : behA l k = k + 1 := by unfold behA; rw [h]
theorem behC_some {l : List UInt8} {k : Nat} {t : List UInt8} {e : Nat} (h : Cd.span l (k : Int) = some (t, e)) : behC l k = e := by unfold behC; rw [h]
theorem behC_none {l : List UInt8} {k : Nat} (h : Cd.span l (k : Int) = none) : behC l k = k + Fn.run 96 (l.drop k) := by unfold behC; rw [h]

set_option maxHeartbeats 1000000 in
theorem bauto_any (l : List UInt8) (k : Nat) (hk : k < l.length) (hs : l.length ≤ 1000000000) (w : World) :
    Calls Try.prog 27 #[.string (bs l), .int .i64 (k : Int)] w fun e w' => e = .returned (.int .i64 (behA l k : Int)) ∧ Below w.heap.size w w' := by
  have hsz := bs_size l
  have q := fun w => pauto_any l (k : Int) hs w
  cases hau : Lk.auto l (k : Int) with
  | some x =>
    obtain ⟨tt, e⟩ := x
    rw [behA_some hau]
    rw [hau, show spanV (some (tt, e)) = .tuple #[.string (bs tt), .int .i64 (e : Int), .bool true] from rfl] at q
    clear hau
    go_enter Try.func27, Try.ntmps27
    go_wp2_with fail
    refine (q _).mono ?_
    rintro e w1 ⟨rfl, hb1⟩
    go_wp2
    go_ret
    exact ⟨rfl, hb1⟩
  | none =>
    rw [behA_none hau]
    rw [hau, show spanV none = .tuple #[.string ⟨#[]⟩, .int .i64 0, .bool false] from rfl] at q
    clear hau
    go_enter Try.func27, Try.ntmps27
    go_wp2_with fail
    refine (q _).mono ?_
    rintro e w1 ⟨rfl, hb1⟩
    go_wp2
    go_ret
    exact ⟨rfl, hb1⟩

set_option maxHeartbeats 1000000 in
theorem bcode_any (l : List UInt8) (k : Nat) (hk : k < l.length) (hs : l.length ≤ 1000000000) (w : World) :
    Calls Try.prog 26 #[.string (bs l), .int .i64 (k : Int)] w fun e w' => e = .returned (.int .i64 (behC l k : Int)) ∧ Below w.heap.size w w' := by
  have hsz := bs_size l
  have q := fun w => cspan_any l (k : Int) (by omega) w
  cases hau : Cd.span l (k : Int) with
  | some x =>
    obtain ⟨tt, e⟩ := x
    rw [behC_some hau]
    rw [hau, show spanV (some (tt, e)) = .tuple #[.string (bs tt), .int .i64 (e : Int), .bool true] from rfl] at q
    clear hau
    go_enter Try.func26, Try.ntmps26
    go_wp2_with fail
    refine (q _).mono ?_
    rintro e w1 ⟨rfl, hb1⟩
    go_wp2
    go_ret
    exact ⟨rfl, hb1⟩
  | none =>
    rw [behC_none hau]
    rw [hau, show spanV none = .tuple #[.string ⟨#[]⟩, .int .i64 0, .bool false] from rfl] at q
    have q2 := fun w => crun_of l (k : Int) 96 w (by omega) (by omega)
    rw [runV_at] at q2
    have hle := Fn.run_le 96 (l.drop k)
    rw [List.length_drop] at hle
    obtain ⟨m, hm⟩ : ∃ m, m = Fn.run 96 (l.drop k) := ⟨_, rfl⟩
    rw [← hm] at q2 hle ⊢
    clear hau hm
    go_enter Try.func26, Try.ntmps26
    go_wp2_with fail
    refine (q _).mono ?_
    rintro e w1 ⟨rfl, hb1⟩
    go_wp2_with fail
    refine (q2 _).mono ?_
    rintro e w2 ⟨rfl, rfl⟩
    go_wp2
    go_ret
    exact ⟨rfl, hb1⟩
end Go.Proofs.Ytjkmhcolnidflaa
