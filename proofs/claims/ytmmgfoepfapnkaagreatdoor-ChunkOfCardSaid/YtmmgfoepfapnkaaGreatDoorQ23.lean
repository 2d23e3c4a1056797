/- Go's library, where package attr calls it, in my words: TrimLeft, IndexAny at blank and tab, Contains, HasPrefix, Clone, ContainsRune, ValidString; First, Last, Blank of package runes. Package runes: the first rune of a text, the last one. Package runes and the document's own answer: one contract for each function that goes over a text's runes. Package runes and the document's own answer: texts that are made: Text, Fold. -/
import Derived.Test.YtmmgfoepfapnkaaGreatDoorQ14
import Derived.Test.YtmmgfoepfapnkaaGreatDoorQ18
import Derived.Test.YtmmgfoepfapnkaaGreatDoorQ17
import Derived.WalkMore
import Derived.Test.YtmmgfoepfapnkaaGreatDoorQ12
import Derived.Test.YtmmgfoepfapnkaaGreatDoorQ19
import Derived.Laws.Cover4
import Derived.Laws.OwnMore
namespace Go.Proofs.YtmmgfoepfapnkaaGreatDoor
open Go.RowKit

/-- the tables of unicode/utf8, as they lie -/
abbrev ATabs (w : World) : Prop := Lib.Utf8Tabs 0 1 w
theorem tabs_ext {w w' : World} (h : ATabs w) (hb : Below w.heap.size w w') : ATabs w' := Utf8Tabs_below h hb

theorem at_contains (l : List UInt8) (c : UInt8) (w : World) :
    Calls Tryz.prog 129 #[.string (bs l), .string ⟨#[c]⟩] w fun e w' => e = .returned (.bool (decide (c ∈ l))) ∧ w' = w := by
  have h := Tryz.strings_Contains_one (bs l) c w
  rwa [show decide (0 ≤ Lib.indexByte (bs l).data.toList c) = decide (c ∈ l) from by rw [← Lib.contains_iff_indexByte]; simp [bs]] at h

set_option maxHeartbeats 1000000 in
theorem at_clone (l : List UInt8) (w : World) (hl : l.length ≤ 140737488355328) :
    Calls Tryz.prog 59 #[.string (bs l)] w fun e w' => e = .returned (.string (bs l)) ∧ Below w.heap.size w w' := by
  go_enter Tryz.func59, Tryz.ntmps59
  go_wp2_with (go_at_call 76; refine (Tryz.stringslite_Clone (bs l) _ (by rw [bs_size]; omega)).mono ?_; rintro e w' ⟨rfl, hb⟩)
  go_ret
  exact ⟨rfl, hb⟩

/-- the first byte -/
def heads (c : UInt8) : List UInt8 → Bool
  | [] => false
  | b :: _ => decide (b = c)
theorem hasPrefix_any (l : List UInt8) (c : UInt8) (w : World) :
    Calls Tryz.prog 127 #[.string (bs l), .string ⟨#[c]⟩] w fun e w' => e = .returned (.bool (heads c l)) ∧ w' = w := by
  have h := Tryz.strings_HasPrefix (bs l) ⟨#[c]⟩ w
  rwa [show Lib.hasPrefix (bs l).data.toList (⟨#[c]⟩ : ByteArray).data.toList = heads c l from by
    rcases l with _ | ⟨b, r⟩
    · rfl
    · rw [Bool.eq_iff_iff]; simp [bs, heads, Lib.hasPrefix, List.isPrefixOf]; exact eq_comm] at h

theorem trimLeft_any (l : List UInt8) (w : World) :
    Calls Tryz.prog 130 #[.string (bs l), .string ⟨#[32, 9]⟩] w fun e w' => e = .returned (.string (bs (l.drop (Cl.gaps l)))) ∧ Below w.heap.size w w' := by
  have h := Any.strings_TrimLeft_laid Tryz.lays161 (by kernel_rfl) (bs l) ⟨#[32, 9]⟩ w (by decide) (ascii_of_all (by decide))
  change Calls Tryz.prog 130 _ _ (fun e w' => e = .returned (.string (bs (Lib.trimLeftS l [32, 9]))) ∧ Below w.heap.size w w') at h
  rwa [trimLeft_gaps] at h

theorem valid_any (l : List UInt8) (w : World) (hl : l.length ≤ 140737488355328) (hT : ATabs w) :
    Calls Tryz.prog 51 #[.string (bs l)] w fun e w' => e = .returned (.bool (decide (Ru.enc (Ru.runes l) = l))) ∧ Below w.heap.size w w' := by
  have h := Any.utf8_ValidString Tryz.lays196 (bs l) w (by rw [bs_size]; omega) hT
  change Calls Tryz.prog 51 _ _ (fun e w' => e = .returned (.bool (Lib.validD l)) ∧ Below w.heap.size w w') at h
  rwa [valid_eq] at h

set_option maxRecDepth 100000 in
theorem run_rune (r : Int) (w : World) : (convert 21 9 (.int .i32 r)).run Tryz.prog w = .ok (.string (bs (Lib.encodeRune r))) w := by
  rw [run_convert_int_string w 21 9 .i32 r (by kernel_rfl) Tryz.underlying9, Ru.encode_eq]
  rfl

/-- IndexRune of U+FFFD in a text that has none -/
theorem runes_tail {A : List UInt8} {pos : Nat} {x k : Nat} {p : Nat → Prop} (hr : Ru.runes (A.drop pos) = x :: Ru.runes (A.drop (pos + k))) (h : ∀ y ∈ Ru.runes (A.drop pos), p y) : p x ∧ ∀ y ∈ Ru.runes (A.drop (pos + k)), p y := by
  rw [hr] at h
  exact ⟨h x (by simp), fun y hy => h y (by simp [hy])⟩

set_option maxHeartbeats 4000000 in
set_option maxRecDepth 100000 in
theorem indexRune_bad (A : List UInt8) (hA : ∀ y ∈ Ru.runes A, y ≠ 65533) (w : World) :
    Calls Tryz.prog 74 #[.string (bs A), .int .i32 65533] w fun e w' => e = .returned (.int .i64 (-1)) ∧ Below w.heap.size w w' := by
  replace hA := Lib.hid hA
  go_enter Tryz.func74, Tryz.ntmps74
  go_wp2_with fail
  go_loopw [] (fun wr => ∃ pos : Nat, Hid (wr.heap[w.heap.size]? = some (.stringIter (bs A) pos)) ∧ Hid (∀ y ∈ Ru.runes (A.drop pos), y ≠ 65533) ∧ Below w.heap.size w wr)
    (fun wr => A.length - wr.iterPos w.heap.size)
  case atStart => exact ⟨0, Lib.hid (iter_new _ _ _ rfl), Lib.hid (by simpa using hA.out), ext_alloc _ _⟩
  case round =>
    obtain ⟨pos, hit, hD, hb⟩ := hrel
    by_cases hp : pos < A.length
    · obtain ⟨x, k, hk, _, hd, hr⟩ := rune_at hp
      have hnx := run_next_rune hit.out hp hd
      obtain ⟨hx, hD2⟩ := runes_tail hr hD.out
      have hne : ((x : Int) == 65533) = false := beq_eq_false_iff_ne.2 (by omega)
      replace hd := Lib.hid hd
      replace hD2 := Lib.hid hD2
      have hit2 := Lib.hid (Lib.iterAt_heap wr w.heap.size (bs A) pos (pos + k) hit.out)
      have hb2 := Lib.below_iterAt hb (k := w.heap.size) (Nat.le_refl _) (bs A) (pos + k)
      have hpos : Hid (wr.iterPos w.heap.size = pos) := Lib.hid (by simp only [World.iterPos, hit.out])
      have hpos2 : Hid ((wr.iterAt w.heap.size (bs A) (pos + k)).iterPos w.heap.size = pos + k) := Lib.hid (by simp only [World.iterPos, hit2.out])
      clear hr hx
      go_wp2_with fail
      go_roundw
      case rel => exact ⟨pos + k, hit2, hD2, hb2⟩
      case measure => rw [hpos.out, hpos2.out]; omega
    · have hnx := run_next_done hit.out hp
      go_wp2_with fail
      go_returns
      exact ⟨rfl, hb⟩

set_option maxHeartbeats 4000000 in
set_option maxRecDepth 100000 in
theorem indexRune_valid (A : List UInt8) (hA : ∀ b ∈ A, b.toNat < 128) (x : Nat) (hx : 128 ≤ x) (hv : Ru.vr x) (hne : x ≠ 65533) (w : World) :
    Calls Tryz.prog 74 #[.string (bs A), .int .i32 (x : Int)] w fun e w' => e = .returned (.int .i64 (-1)) ∧ Below w.heap.size w w' := by
  obtain ⟨he2, he4, hb⟩ := enc_high hx hv
  have hcv := run_rune (x : Int)
  have hvr : Lib.validRune (x : Int) = true := by
    have : x < 55296 ∨ (57344 ≤ x ∧ x ≤ 1114111) := hv
    unfold Lib.validRune; rw [decide_eq_true_eq]; omega
  have hva := fun w => Tryz.utf8_ValidRune (x : Int) w
  rw [hvr] at hva
  obtain ⟨R, hR⟩ : ∃ R, Lib.encodeRune (x : Int) = R := ⟨_, rfl⟩
  rw [hR] at hcv he2 he4 hb
  obtain ⟨n, hn⟩ : ∃ n, R.length = n + 1 := ⟨R.length - 1, by omega⟩
  have hzR : (bs R).size = n + 1 := by rw [bs_size, hn]
  have hzA := bs_size A
  have c1 : decide ((0 : Int) ≤ (x : Int)) = true := by simp
  have c2 : decide ((x : Int) < 128) = false := by simp; omega
  have c3 : ((x : Int) == 65533) = false := beq_eq_false_iff_ne.2 (by omega)
  clear hR hvr hv
  by_cases hlt : n < A.length
  · have hRn := run_byte (S := R) (i := n) (by omega)
    have hAn := run_byte (S := A) (i := n) hlt
    have hdf := run_from (S := A) (i := n + 1) (by omega)
    have hbn := hb R[n] (List.getElem_mem _)
    have han := hA A[n] (List.getElem_mem _)
    have hneq : ((A[n].toNat : Int) != (R[n].toNat : Int)) = true := by rw [bne_iff_ne]; omega
    have hib := fun w => Tryz.strings_IndexByte (bs (A.drop (n + 1))) (R[n].toNat : Int) w
    rw [show ((R[n].toNat : Int)).toNat.toUInt8 = R[n] from by simp] at hib
    have hm : Lib.indexByte (bs (A.drop (n + 1))).data.toList R[n] = -1 := by
      refine indexByte_none (fun h => ?_)
      have h1 : R[n] ∈ A.drop (n + 1) := by simpa [bs] using h
      have := hA _ (List.mem_of_mem_drop h1)
      omega
    rw [hm] at hib
    rw [show ((n + 1 : Nat) : Int) = (n : Int) + 1 from by omega] at hdf
    obtain ⟨u, hu⟩ : ∃ u, R[n] = u := ⟨_, rfl⟩
    obtain ⟨v, hv⟩ : ∃ v, A[n] = v := ⟨_, rfl⟩
    rw [hu] at hRn hneq hib
    rw [hv] at hAn hneq
    obtain ⟨T, hT⟩ : ∃ T, A.drop (n + 1) = T := ⟨_, rfl⟩
    rw [hT] at hdf hib
    have hw1 : IntKind.i64.wrap ((n : Int) + 1) = (n : Int) + 1 := by rw [IntKind.wrap_i64]; omega
    clear hm hbn han hb hA hu hv hT
    go_enter Tryz.func74, Tryz.ntmps74
    go_wp2_with fail
    refine (hva _).mono ?_
    rintro e w' ⟨rfl, rfl⟩
    go_wp2_with fail
    go_step3
    go_wp2_with fail
    go_loop [9] (fun u => u = .int .i64 (n : Int)) (fun _ => 0)
    case atStart => exact rfl
    case round =>
      obtain rfl := hrel
      go_wp2_with fail
      go_step3
      go_wp2_with fail
      go_quiet (fail)
      go_wp2_with fail
      go_quiet ((go_at_call 87; exact (hib _).mono (fun _ _ h => ⟨h.1, _, h.2⟩)))
      go_wp2_with fail
      simp +zetaDelta only [Exit.noGoto, Exit.inBlock, Exit.then]
      go_ret
      exact ⟨rfl, below_drewN (Below.refl _ _) _⟩
  · have hnA : ¬ ((n : Int) < (A.length : Int)) := by omega
    go_enter Tryz.func74, Tryz.ntmps74
    go_wp2_with fail
    refine (hva _).mono ?_
    rintro e w' ⟨rfl, rfl⟩
    go_wp2_with fail
    go_step3
    go_wp2_with fail
    go_loop [9] (fun u => u = .int .i64 (n : Int)) (fun _ => 0)
    case atStart => exact rfl
    case round =>
      obtain rfl := hrel
      go_wp2_with fail
      go_ret
      exact ⟨rfl, Below.refl _ _⟩

/-- IndexRune of a rune from 128 on in a text of ASCII bytes -/
theorem indexRune_high (A : List UInt8) (hA : ∀ b ∈ A, b.toNat < 128) (hAr : ∀ y ∈ Ru.runes A, y ≠ 65533) (x : Nat) (hx : 128 ≤ x) (hv : Ru.vr x) (w : World) :
    Calls Tryz.prog 74 #[.string (bs A), .int .i32 (x : Int)] w fun e w' => e = .returned (.int .i64 (-1)) ∧ Below w.heap.size w w' := by
  by_cases h : x = 65533
  · subst h; exact indexRune_bad A hAr w
  · exact indexRune_valid A hA x hx hv h w

set_option maxHeartbeats 1000000 in
set_option maxRecDepth 100000 in
/-- ContainsRune of the signs that no name has -/
theorem containsRune_any (x : Nat) (hv : Ru.vr x) (w : World) :
    Calls Tryz.prog 52 #[.string ⟨#[60, 62, 91, 93, 35, 34, 92]⟩, .int .i32 (x : Int)] w fun e w' => e = .returned (.bool (decide (x < 128) && decide (UInt8.ofNat x ∈ At.sharp))) ∧ Below w.heap.size w w' := by
  by_cases h : x < 128
  · have h1 := Tryz.strings_ContainsRune_ascii (bs At.sharp) (x : Int) w (by omega) (by omega)
    rw [decide_eq_true h, Bool.true_and]
    refine h1.mono ?_
    rintro e w' ⟨rfl, rfl⟩
    refine ⟨?_, Below.refl _ _⟩
    rw [← Lib.contains_iff_indexByte]
    congr 2
    rw [Bool.eq_iff_iff]
    simp [bs]
  · have h1 := fun w => indexRune_high At.sharp (by decide) (by decide) x (by omega) hv w
    rw [decide_eq_false h, Bool.false_and]
    change ∀ w, Calls Tryz.prog 74 #[.string ⟨#[60, 62, 91, 93, 35, 34, 92]⟩, .int .i32 (x : Int)] w _ at h1
    go_enter Tryz.func52, Tryz.ntmps52
    go_wp2_with (go_at_call 74; refine (h1 _).mono ?_; rintro e w' ⟨rfl, hb⟩)
    go_ret
    exact ⟨rfl, hb⟩

set_option maxHeartbeats 1000000 in
set_option maxRecDepth 100000 in
theorem at_blank (x : Nat) (w : World) :
    Calls Tryz.prog 55 #[.int .i32 (x : Int)] w fun e w' => e = .returned (.bool (At.blank x)) ∧ w = w' := by
  go_enter Tryz.func55, Tryz.ntmps55
  go_wp2
  all_goals go_ret
  all_goals (refine ⟨at_ret_bool ?_, rfl⟩; (try simp only [beq_iff_eq, beq_eq_false_iff_ne, ne_eq] at *); rw [Bool.eq_iff_iff]; simp [At.blank]; try omega)

/-- a rune that is one byte, or one from 128 on -/
theorem word_rune {l : List UInt8} {pos x k : Nat} (hp : pos < l.length) (hd : Utf8.decode (bs l) pos = (x, k)) :
    (x < 128 ∧ k = 1 ∧ l[pos].toNat = x) ∨ (128 ≤ x ∧ Ru.vr x ∧ (At.tw At.word (l.drop pos)).length = k + (At.tw At.word (l.drop (pos + k))).length) := by
  have hD := runes_next.decodeL_drop' l pos
  rw [hd] at hD
  have hne : l.drop pos ≠ [] := by intro h0; have := congrArg List.length h0; rw [List.length_drop] at this; simp at this; omega
  rcases Nat.lt_or_ge l[pos].toNat 128 with h | h
  · left
    rw [List.drop_eq_getElem_cons hp, low_rune _ h] at hD
    cases hD
    exact ⟨h, rfl, rfl⟩
  · right
    have h1 : 128 ≤ x := by
      have := high_rune (l.drop (pos + 1)) h
      rw [← List.drop_eq_getElem_cons hp, hD] at this; exact this
    have h2 := high_word hne (by rw [hD]; exact h1)
    have h3 := Ru.decodeL_vr (l.drop pos)
    rw [hD] at h2 h3
    rw [List.drop_drop] at h2
    exact ⟨h1, h3, h2⟩

set_option maxHeartbeats 4000000 in
set_option maxRecDepth 100000 in
theorem indexAny_short (l : List UInt8) (w : World) (hl : l.length ≤ 8) :
    Calls Tryz.prog 161 #[.string (bs l), .string ⟨#[32, 9]⟩] w fun e w' => e = .returned (.int .i64 (Lib.indexAny l [32, 9])) ∧ Below w.heap.size w w' := by
  have hsz := bs_size l
  have hsh := fun w => Tryz.strings_shouldUseASCIISet (l.length : Int) w
  rw [show decide ((8 : Int) < (l.length : Int)) = false from decide_eq_false (by omega)] at hsh
  rw [indexAny_word]
  obtain ⟨V, hV⟩ : ∃ V : Int, (if (At.tw At.word l).length < l.length then ((At.tw At.word l).length : Int) else -1) = V := ⟨_, rfl⟩
  rw [hV]
  replace hV := Lib.hid hV
  go_enter Tryz.func161, Tryz.ntmps161
  go_wp2_with (go_at_call 190; refine (hsh _).mono ?_; rintro e w' ⟨rfl, rfl⟩)
  go_loopw [] (fun wr => ∃ pos : Nat, Hid (wr.heap[w'.heap.size]? = some (.stringIter (bs l) pos)) ∧ pos ≤ l.length ∧ Hid ((At.tw At.word l).length = pos + (At.tw At.word (l.drop pos)).length) ∧ Below w'.heap.size w' wr)
    (fun wr => l.length - wr.iterPos w'.heap.size)
  case atStart => exact ⟨0, Lib.hid (iter_new _ _ _ rfl), by omega, Lib.hid (by simp), ext_alloc _ _⟩
  case round =>
    obtain ⟨pos, hit, hpl, hD, hb⟩ := hrel
    by_cases hp : pos < l.length
    · obtain ⟨x, k, hk, hkl, hd, hr⟩ := rune_at hp
      have hnx := run_next_rune hit.out hp hd
      have hways := word_rune hp hd
      replace hd := Lib.hid hd
      have hit2 := Lib.hid (Lib.iterAt_heap wr w'.heap.size (bs l) pos (pos + k) hit.out)
      have hb2 := Lib.below_iterAt hb (k := w'.heap.size) (Nat.le_refl _) (bs l) (pos + k)
      have hpos : Hid (wr.iterPos w'.heap.size = pos) := Lib.hid (by simp only [World.iterPos, hit.out])
      have hpos2 : Hid ((wr.iterAt w'.heap.size (bs l) (pos + k)).iterPos w'.heap.size = pos + k) := Lib.hid (by simp only [World.iterPos, hit2.out])
      clear hr
      rcases hways with ⟨h1, rfl, h2⟩ | ⟨h1, h2, h3⟩
      · have hir := fun w => Tryz.strings_IndexRune_ascii ⟨#[32, 9]⟩ (x : Int) w (by omega) (by omega)
        have hx : ((x : Int)).toNat.toUInt8 = l[pos] := by rw [← h2]; simp
        rw [hx] at hir
        have hg := at_gap_in l[pos]
        rw [Lib.contains_iff_indexByte] at hg
        have hca : Lib.indexByte [32, 9] l[pos] = Lib.indexByte (⟨#[32, 9]⟩ : ByteArray).data.toList l[pos] := rfl
        rw [hca] at hg
        obtain ⟨J, hJ⟩ : ∃ J, Lib.indexByte (⟨#[32, 9]⟩ : ByteArray).data.toList l[pos] = J := ⟨_, rfl⟩
        rw [hJ] at hir hg
        clear hca hJ hx h2
        cases hgp : Cl.isGap l[pos] with
        | true =>
          rw [hgp] at hg
          have hfin : Hid (V = (pos : Int)) := Lib.hid (by
            have := hD.out
            rw [← hV.out]
            rw [List.drop_eq_getElem_cons hp, At.tw_no _ (by unfold At.word; rw [hgp]; rfl)] at this
            rw [this]
            simp [hp])
          replace hg : (0 : Int) ≤ J := of_decide_eq_true hg
          clear hgp
          go_wp2_with (go_at_call 74; refine (hir _).mono ?_; rintro e w' ⟨rfl, rfl⟩)
          go_returns
          exact ⟨by rw [hfin.out]; rfl, hb2⟩
        | false =>
          rw [hgp] at hg
          replace hg : ¬ (0 : Int) ≤ J := of_decide_eq_false hg
          have hD2 : Hid ((At.tw At.word l).length = pos + 1 + (At.tw At.word (l.drop (pos + 1))).length) := Lib.hid (by
            have := hD.out
            rw [At.tw_at hp (by unfold At.word; rw [hgp]; rfl)] at this
            omega)
          clear hgp
          go_wp2_with (go_at_call 74; refine (hir _).mono ?_; rintro e w' ⟨rfl, rfl⟩)
          go_roundw
          case rel => exact ⟨pos + 1, hit2, by omega, hD2, hb2⟩
          case measure => rw [hpos.out, hpos2.out]; omega
      · have hir := fun w => indexRune_high [32, 9] (by decide) (by decide) x h1 h2 w
        change ∀ w, Calls Tryz.prog 74 #[.string ⟨#[32, 9]⟩, .int .i32 (x : Int)] w _ at hir
        have hD2 : Hid ((At.tw At.word l).length = pos + k + (At.tw At.word (l.drop (pos + k))).length) := Lib.hid (by have := hD.out; omega)
        clear h3
        go_wp2_with (go_at_call 74; refine (hir _).mono ?_; rintro e w5 ⟨rfl, hb5⟩)
        have hit3 := Lib.hid (keep hit2.out hb5).1
        have hb3 := hb2.trans (hb5.mono hb2.size)
        have hpos3 : Hid (w5.iterPos w'.heap.size = pos + k) := Lib.hid (by simp only [World.iterPos, hit3.out])
        go_wp2_with fail
        go_roundw
        case rel => exact ⟨pos + k, hit3, by omega, hD2, hb3⟩
        case measure => rw [hpos.out, hpos3.out]; omega
    · have hnx := run_next_done hit.out hp
      have hfin : Hid (V = -1) := Lib.hid (by
        have := hD.out
        rw [← hV.out]
        rw [List.drop_eq_nil_of_le (by omega)] at this
        rw [if_neg (by simp [At.tw] at this; omega)])
      go_wp2_with fail
      go_returns
      exact ⟨by rw [hfin.out]; rfl, hb⟩

theorem indexAny_any (l : List UInt8) (w : World) (hl : l.length ≤ 1000000000) :
    Calls Tryz.prog 161 #[.string (bs l), .string ⟨#[32, 9]⟩] w fun e w' => e = .returned (.int .i64 (if (At.tw At.word l).length < l.length then ((At.tw At.word l).length : Int) else -1)) ∧ Below w.heap.size w w' := by
  rw [← indexAny_word]
  by_cases h : l.length ≤ 8
  · exact indexAny_short l w h
  · have h116 : (Tryz.prog.info? (Tryz.lays153_ren.t 116)).map (fun i => (i.zero, i.size)) = some (some (.agg (Array.replicate 256 (.bool false))), 256) := by kernel_rfl
    have h1 := Any.strings_IndexAny_long Tryz.lays153 (zero_of_info h116).1 (zero_of_info h116).2 (bs l) ⟨#[32, 9]⟩ w (by decide) (by rw [bs_size]; omega) (by rw [bs_size]; omega) (by decide) (ascii_of_all (by decide))
    refine h1.mono ?_
    rintro e w' ⟨rfl, rfl⟩
    exact ⟨rfl, ((Below.refl _ _).alloc (Nat.le_refl _) _).alloc (by simp) _⟩
end Go.Proofs.YtmmgfoepfapnkaaGreatDoor

namespace Go.Proofs.YtmmgfoepfapnkaaGreatDoor
open Go.RowKit

set_option maxHeartbeats 1000000 in
theorem first_none (w : World) :
    Calls Tryz.prog 53 #[.string (bs [])] w fun e w' => e = .returned (.tuple #[.int .i32 0, .bool false]) ∧ Below w.heap.size w w' := by
  go_enter Tryz.func53, Tryz.ntmps53
  go_wp2
  go_loopw [] (fun wr => Hid (wr.heap[w.heap.size]? = some (.stringIter (bs []) 0)) ∧ Below w.heap.size w wr) (fun _ => 0)
  case atStart => exact ⟨Lib.hid (iter_new _ _ _ rfl), ext_alloc _ _⟩
  case round =>
    obtain ⟨hit, hb⟩ := hrel
    have hnx := run_next_done hit.out (Nat.lt_irrefl 0)
    go_wp2
    go_ret2
    exact ⟨rfl, hb⟩

end Go.Proofs.YtmmgfoepfapnkaaGreatDoor

namespace Go.Proofs.YtmmgfoepfapnkaaGreatDoor
open Go.RowKit

end Go.Proofs.YtmmgfoepfapnkaaGreatDoor

namespace Go.Proofs.YtmmgfoepfapnkaaGreatDoor
open Go.RowKit

theorem fresh_builder (w : World) : IsB w.heap.size w.heap.size (Lib.byteCells (Ru.enc [])) (w.alloc (.cells #[.pointer none, .slice none 0 0] 196)) :=
  Lib.IsBuilderF.of (Lib.fresh_isBuilder 196 5 w)
theorem rn_iter_new2 (w : World) (o : Obj) (l : List UInt8) : ((w.alloc o).alloc (.stringIter (bs l) 0)).heap[w.heap.size + 1]? = some (.stringIter (bs l) 0) := by
  have := heap_alloc_new (w.alloc o) (.stringIter (bs l) 0)
  simpa using this
theorem rn_ext_alloc2 (w : World) (o p : Obj) : Below w.heap.size w ((w.alloc o).alloc p) := ((Below.refl _ w).alloc (Nat.le_refl _) _).alloc (by simp) _

set_option maxHeartbeats 4000000 in
set_option maxRecDepth 100000 in
theorem text_any (l : List UInt8) (A : Option Addr) (c : Nat) (w : World) (hR : Row w w.heap.size 1 A l.length (bcells l)) (hs : l.length ≤ 1000000000) :
    Calls Tryz.prog 95 #[.slice A l.length c] w fun e w' => e = .returned (.string (bs (Ru.text l))) ∧ Below w.heap.size w w' := by
  have hcv := run_text (c := c) (hR.alloc (Nat.le_refl _) (.cells #[.pointer none, .slice none 0 0] 196)) 31 5 9 Tryz.underlying31 Tryz.underlying5 Tryz.underlying9
  clear hR
  go_enter Tryz.func95, Tryz.ntmps95
  go_wp2
  go_loopw [] (fun wr => ∃ (pos : Nat) (D : List Nat), IsB w.heap.size w.heap.size (Lib.byteCells (Ru.enc (D.map Ru.zr))) wr ∧ Hid (wr.heap[w.heap.size + 1]? = some (.stringIter (bs l) pos)) ∧ Hid (D ++ Ru.runes (l.drop pos) = Ru.runes l) ∧ Below w.heap.size w wr)
    (fun wr => l.length - wr.iterPos (w.heap.size + 1))
  case atStart => exact ⟨0, [], (fresh_builder w).alloc _, Lib.hid (rn_iter_new2 _ _ _), Lib.hid rfl, rn_ext_alloc2 _ _ _⟩
  case round =>
    obtain ⟨pos, D, hI, hit, hD, hb⟩ := hrel
    have hdl := runes_part hD.out
    have hlt : w.heap.size + 1 < wr.heap.size := (Array.getElem?_eq_some_iff.1 hit.out).1
    by_cases hp : pos < l.length
    · obtain ⟨x, k, hk, hv, hd, hD2⟩ := runes_next hp hD.out
      have hnx := run_next_rune hit.out hp hd
      replace hD2 := Lib.hid hD2
      replace hd := Lib.hid hd
      have hit2 := Lib.hid (Lib.iterAt_heap wr (w.heap.size + 1) (bs l) pos (pos + k) hit.out)
      have hb2 := Lib.below_iterAt hb (k := w.heap.size + 1) (by omega) (bs l) (pos + k)
      have hI2 : IsB _ _ _ _ := hI.iterAt hit.out (pos + k)
      have hpos : Hid (wr.iterPos (w.heap.size + 1) = pos) := Lib.hid (by simp only [World.iterPos, hit.out])
      have hz2 : w.heap.size ≤ (wr.iterAt (w.heap.size + 1) (bs l) (pos + k)).heap.size := by rw [Lib.iterAt_size]; omega
      have hl4 := (Ru.enc_len (D.map Ru.zr)).2
      rw [List.length_map] at hl4
      have hvx : x ≤ 1114111 := by unfold Ru.vr at hv; omega
      have hzx : Hid (Ru.zr x = if x = 0 then 65533 else x) := Lib.hid rfl
      have hlen : (Lib.byteCells (Ru.enc (D.map Ru.zr))).length + 4 ≤ 140737488355328 := by rw [Lib.byteCells_length]; omega
      have hend : ∀ (z : Nat) (wz : World), z = Ru.zr x → IsB w.heap.size w.heap.size (Lib.byteCells (Ru.enc (D.map Ru.zr)) ++ Lib.runeCells (z : Int)) wz → IsB w.heap.size w.heap.size (Lib.byteCells (Ru.enc ((D ++ [x]).map Ru.zr))) wz := by
        intro z wz hz h
        subst hz
        rw [List.map_append, List.map_cons, List.map_nil, Ru.enc_snoc, Lib.byteCells_append, Lib.byteCells_encodeRune]
        exact h
      replace hend := Lib.hid hend
      by_cases h0 : x = 0
      · have ht : (((x : Nat) : Int) == 0) = true := by simp [h0]
        have hz : 65533 = Ru.zr x := by rw [hzx.out, if_pos h0]
        replace hz := Lib.hid hz
        replace h0 := Lib.hid h0
        go_wp2_with (go_at_call 121; refine (writeRune_any w.heap.size w.heap.size _ 65533 (by omega) (by omega) _ hI2 hlen hz2).mono ?_; rintro e w2 ⟨⟨v, rfl⟩, h1, b1, k1⟩)
        have hit3 : Hid (w2.heap[w.heap.size + 1]? = some (.stringIter (bs l) (pos + k))) := Lib.hid (k1.iter hit2.out (by omega))
        have hpos2 : Hid (w2.iterPos (w.heap.size + 1) = pos + k) := Lib.hid (by simp only [World.iterPos, hit3.out])
        go_wp2
        go_roundw
        case rel => exact ⟨pos + k, D ++ [x], hend.out 65533 _ hz.out h1, hit3, hD2, hb2.trans b1⟩
        case measure => rw [hpos.out, hpos2.out]; omega
      · have ht : (((x : Nat) : Int) == 0) = false := by simp [h0]
        have hz : x = Ru.zr x := by rw [hzx.out, if_neg h0]
        replace hz := Lib.hid hz
        replace h0 := Lib.hid h0
        go_wp2_with (go_at_call 121; refine (writeRune_any w.heap.size w.heap.size _ _ (by omega) (by omega) _ hI2 hlen hz2).mono ?_; rintro e w2 ⟨⟨v, rfl⟩, h1, b1, k1⟩)
        have hit3 : Hid (w2.heap[w.heap.size + 1]? = some (.stringIter (bs l) (pos + k))) := Lib.hid (k1.iter hit2.out (by omega))
        have hpos2 : Hid (w2.iterPos (w.heap.size + 1) = pos + k) := Lib.hid (by simp only [World.iterPos, hit3.out])
        go_wp2
        go_roundw
        case rel => exact ⟨pos + k, D ++ [x], hend.out x _ hz.out h1, hit3, hD2, hb2.trans b1⟩
        case measure => rw [hpos.out, hpos2.out]; omega
    · have hnx := run_next_done hit.out hp
      have hDe := runes_done hp hD.out
      clear hD
      subst hDe
      go_wp2_with (go_at_call 122; refine (Tryz.Builder_String_any_k w.heap.size w.heap.size _ _ hI (by omega)).mono ?_; rintro e w2 ⟨rfl, _, b1, _⟩)
      go_wp2
      go_ret
      exact ⟨rfl, hb.trans b1⟩



end Go.Proofs.YtmmgfoepfapnkaaGreatDoor
