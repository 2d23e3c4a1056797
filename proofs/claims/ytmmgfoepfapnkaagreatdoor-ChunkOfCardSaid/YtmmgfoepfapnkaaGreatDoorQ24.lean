/- Package attr: words, the language, keys, texts that need no quotes, styles, what a value is: one contract a function. Package attr: names. Package chunk: words that only pieces have. Package chunk: what pieces say, paths, faults. Package chunk: faults; documents too long, paths that may not be. Package chunk: a Def anew, those of a key. Package chunk: the Defs of a key. Plain mathematics of infos: where the pairs begin; a pair counted from another place; the keys that were seen. No program is walked here. Package attr: texts in quotes, read and written: by a strings.Builder. Package attr: a value, a pair. Package attr: a pair of a key and a text; any pair. Package attr: all pairs of an info. Sets of texts, as maps hold them. Package chunk: paths of documents that may not be. Package chunk: keys, files. Package chunk: files. -/
import Derived.Test.YtmmgfoepfapnkaaGreatDoorQ23
import Derived.Test.YtmmgfoepfapnkaaGreatDoorQ03
import Derived.Test.YtmmgfoepfapnkaaGreatDoorQ12
import Derived.Test.YtmmgfoepfapnkaaGreatDoorQ14
import Derived.Test.YtmmgfoepfapnkaaGreatDoorQ15
import Derived.Test.YtmmgfoepfapnkaaGreatDoorQ07
import Derived.Test.YtmmgfoepfapnkaaGreatDoorQ06
import Derived.Test.YtmmgfoepfapnkaaGreatDoorQ02
import Derived.Maps.OwnSet
import Derived.Test.YtmmgfoepfapnkaaGreatDoorQ19
import Derived.Deep.DeepCutAuto
namespace Go.Proofs.YtmmgfoepfapnkaaGreatDoor
open Go.RowKit
attribute [local go_sem] canOp readsAs readUpon

set_option maxHeartbeats 1000000 in
set_option maxRecDepth 100000 in
theorem ungap_any (l : List UInt8) (w : World) :
    Calls Tryz.prog 99 #[.string (bs l)] w fun e w' => e = .returned (.string (bs (l.drop (Cl.gaps l)))) ∧ Below w.heap.size w w' := by
  have h := trimLeft_any l
  go_enter Tryz.func99, Tryz.ntmps99
  go_wp2_with (go_at_call 130; refine (h _).mono ?_; rintro e w' ⟨rfl, hb⟩)
  go_ret
  exact ⟨rfl, hb⟩

theorem tw_full {p : UInt8 → Bool} {l : List UInt8} (h : ¬ (At.tw p l).length < l.length) : At.tw p l = l := by
  have h1 := At.tw_take p l
  rw [List.take_of_length_le (by omega)] at h1
  exact h1.symm

set_option maxHeartbeats 1000000 in
set_option maxRecDepth 100000 in
theorem pword_any (l : List UInt8) (w : World) (hl : l.length ≤ 1000000000) :
    Calls Tryz.prog 128 #[.string (bs l)] w fun e w' => e = .returned (.string (bs (At.tw At.word l))) ∧ Below w.heap.size w w' := by
  have h := fun w => indexAny_any l w hl
  have htk := At.tw_take At.word l
  have hfull := @tw_full At.word l
  have hlen := At.tw_len At.word l
  obtain ⟨W, hW⟩ : ∃ W, At.tw At.word l = W := ⟨_, rfl⟩
  rw [hW] at h htk hfull hlen
  rw [hW]
  clear hW
  by_cases hlt : W.length < l.length
  · rw [if_pos hlt] at h
    have hsl := run_upto (S := l) (i := W.length) (by omega)
    rw [htk] at hsl
    clear htk hfull
    go_enter Tryz.func128, Tryz.ntmps128
    go_wp2_with (go_at_call 161; refine (h _).mono ?_; rintro e w' ⟨rfl, hb⟩)
    go_ret
    exact ⟨rfl, hb⟩
  · rw [if_neg hlt] at h
    obtain rfl := hfull hlt
    clear htk
    go_enter Tryz.func128, Tryz.ntmps128
    go_wp2_with (go_at_call 161; refine (h _).mono ?_; rintro e w' ⟨rfl, hb⟩)
    go_ret
    exact ⟨rfl, hb⟩

/-- the language, and what is behind it -/
def At.langOf (r : List UInt8) : List UInt8 × List UInt8 := if At.isLang true (At.tw At.word r) = true then (At.tw At.word r, r.drop (At.tw At.word r).length) else ([], r)
theorem lang_ways (W : List UInt8) : (decide ((61 : UInt8) ∈ W) = false ∧ ((bs W).toList == [97, 112, 112, 101, 110, 100]) = false ∧ ((bs W).toList == [110, 111, 108, 105, 110, 101]) = false ∧ At.isLang true W = true) ∨
    (((bs W).toList == [97, 112, 112, 101, 110, 100]) = true ∧ At.isLang true W = false) ∨
    (((bs W).toList == [97, 112, 112, 101, 110, 100]) = false ∧ ((bs W).toList == [110, 111, 108, 105, 110, 101]) = true ∧ At.isLang true W = false) ∨
    (((bs W).toList == [97, 112, 112, 101, 110, 100]) = false ∧ ((bs W).toList == [110, 111, 108, 105, 110, 101]) = false ∧ decide ((61 : UInt8) ∈ W) = true ∧ At.isLang true W = false) := by
  have eqA : ((bs W).toList == [97, 112, 112, 101, 110, 100]) = decide (W = At.wAppend) := by
    rw [bs_toList]
    by_cases h : W = At.wAppend
    · rw [decide_eq_true h, h]; rfl
    · rw [decide_eq_false h]; exact beq_eq_false_iff_ne.2 h
  have eqN : ((bs W).toList == [110, 111, 108, 105, 110, 101]) = decide (W = At.wNoline) := by
    rw [bs_toList]
    by_cases h : W = At.wNoline
    · rw [decide_eq_true h, h]; rfl
    · rw [decide_eq_false h]; exact beq_eq_false_iff_ne.2 h
  rw [eqA, eqN]
  unfold At.isLang
  simp only [ne_eq, decide_not]
  cases decide ((61 : UInt8) ∈ W) <;> cases decide (W = At.wAppend) <;> cases decide (W = At.wNoline) <;> simp

set_option maxHeartbeats 2000000 in
set_option maxRecDepth 100000 in
theorem language_any (l : List UInt8) (w : World) (hl : l.length ≤ 1000000000) :
    Calls Tryz.prog 98 #[.string (bs l)] w fun e w' => e = .returned (.tuple #[.string (bs (At.langOf (l.drop (Cl.gaps l))).1), .string (bs (At.langOf (l.drop (Cl.gaps l))).2)]) ∧ Below w.heap.size w w' := by
  have hu := ungap_any l
  obtain ⟨r, hr⟩ : ∃ r, l.drop (Cl.gaps l) = r := ⟨_, rfl⟩
  have hrl : r.length ≤ l.length := by rw [← hr, List.length_drop]; omega
  rw [hr] at hu
  rw [hr]
  clear hr
  have hw := fun w => pword_any r w (by omega)
  have hlo : At.langOf r = if At.isLang true (At.tw At.word r) = true then (At.tw At.word r, r.drop (At.tw At.word r).length) else ([], r) := rfl
  have hlen := At.tw_len At.word r
  obtain ⟨W, hW⟩ : ∃ W, At.tw At.word r = W := ⟨_, rfl⟩
  rw [hW] at hw hlo hlen
  clear hW
  have hzW := bs_size W
  have hcn := fun w => at_contains W 61 w
  have hcl := fun w => at_clone W w (by omega)
  have hsl := run_from (S := r) (i := W.length) hlen
  rcases lang_ways W with ⟨a, b, c, h⟩ | ⟨a, h⟩ | ⟨a, b, h⟩ | ⟨a, b, c, h⟩
  · rw [h, if_pos rfl] at hlo
    obtain ⟨R, hR⟩ : ∃ R, r.drop W.length = R := ⟨_, rfl⟩
    rw [hR] at hlo hsl
    rw [hlo]
    rw [a] at hcn
    clear hlo hR h a
    go_enter Tryz.func98, Tryz.ntmps98
    go_wp2_with fail
    refine (hu _).mono ?_
    rintro e w1 ⟨rfl, hb1⟩
    go_wp2_with fail
    refine (hw _).mono ?_
    rintro e w2 ⟨rfl, hb2⟩
    replace hb2 := Lib.hid (ext_trans hb1 hb2)
    go_wp2_with (go_at_call 129; refine (hcn _).mono ?_; rintro e w' ⟨rfl, rfl⟩)
    refine wp_region_can [(true, 0), (true, 2), (true, 3), (true, 4), (true, 5), (false, 1), (true, 6), (true, 7)] (Ext w') (ext_drew w') (by kernel_rfl) (by kernel_rfl) (by kernel_rfl) (fun _ _ d _ _ h => by cases d <;> exact h) ?_
    repeat (first | refine wpCan_move rfl ?_ | (refine wpCan_cons rfl ?_; intro K hK; go_simp; refine hK _ _ _ ?_; clear hK K))
    refine wpCan_cons rfl ?_
    intro K hK
    go_simp
    refine (hcl _).mono ?_
    rintro e w3 ⟨rfl, hb3⟩
    refine can_ext (ext_trans (ext_drew _) hb3) (hK _ _ _ ?_)
    clear hK K
    repeat (first | refine wpCan_move rfl ?_ | (refine wpCan_cons rfl ?_; intro K hK; go_simp; refine hK _ _ _ ?_; clear hK K))
    refine wpCan_nil ?_
    go_wp2_with fail
    go_ret2
    exact ⟨rfl, ext_trans hb2.out (ext_trans (ext_drew _) hb3)⟩
  · rw [h, if_neg (by simp)] at hlo
    rw [hlo]
    clear hlo h hsl
    go_enter Tryz.func98, Tryz.ntmps98
    go_wp2_with fail
    refine (hu _).mono ?_
    rintro e w1 ⟨rfl, hb1⟩
    go_wp2_with fail
    refine (hw _).mono ?_
    rintro e w2 ⟨rfl, hb2⟩
    replace hb2 := Lib.hid (ext_trans hb1 hb2)
    go_wp2_with (go_at_call 129; refine (hcn _).mono ?_; rintro e w' ⟨rfl, rfl⟩)
    go_ret2
    exact ⟨rfl, hb2.out⟩
  · rw [h, if_neg (by simp)] at hlo
    rw [hlo]
    clear hlo h hsl
    go_enter Tryz.func98, Tryz.ntmps98
    go_wp2_with fail
    refine (hu _).mono ?_
    rintro e w1 ⟨rfl, hb1⟩
    go_wp2_with fail
    refine (hw _).mono ?_
    rintro e w2 ⟨rfl, hb2⟩
    replace hb2 := Lib.hid (ext_trans hb1 hb2)
    go_wp2_with (go_at_call 129; refine (hcn _).mono ?_; rintro e w' ⟨rfl, rfl⟩)
    go_ret2
    exact ⟨rfl, hb2.out⟩
  · rw [h, if_neg (by simp)] at hlo
    rw [hlo]
    rw [c] at hcn
    clear hlo h hsl c
    go_enter Tryz.func98, Tryz.ntmps98
    go_wp2_with fail
    refine (hu _).mono ?_
    rintro e w1 ⟨rfl, hb1⟩
    go_wp2_with fail
    refine (hw _).mono ?_
    rintro e w2 ⟨rfl, hb2⟩
    replace hb2 := Lib.hid (ext_trans hb1 hb2)
    go_wp2_with (go_at_call 129; refine (hcn _).mono ?_; rintro e w' ⟨rfl, rfl⟩)
    go_ret2
    exact ⟨rfl, hb2.out⟩

theorem pletter_tests (b : UInt8) : (((97 : Int) ≤ (b.toNat : Int)) ∧ ((b.toNat : Int) ≤ 122) ∧ At.letter b = true) ∨ (¬ ((97 : Int) ≤ (b.toNat : Int)) ∧ At.letter b = false) ∨ (((97 : Int) ≤ (b.toNat : Int)) ∧ ¬ ((b.toNat : Int) ≤ 122) ∧ At.letter b = false) := by
  unfold At.letter
  by_cases h : 97 ≤ b.toNat
  · by_cases h' : b.toNat ≤ 122
    · exact .inl ⟨by omega, by omega, by simp; omega⟩
    · exact .inr (.inr ⟨by omega, by omega, by simp; omega⟩)
  · exact .inr (.inl ⟨by omega, by simp; omega⟩)

set_option maxHeartbeats 2000000 in
set_option maxRecDepth 100000 in
theorem keyLength_any (l : List UInt8) (w : World) (hl : l.length ≤ 1000000000) :
    Calls Tryz.prog 131 #[.string (bs l)] w fun e w' => e = .returned (.int .i64 ((At.tw At.letter l).length : Nat)) ∧ w = w' := by
  have hsz := bs_size l
  obtain ⟨V, hV⟩ : ∃ V, (At.tw At.letter l).length = V := ⟨_, rfl⟩
  rw [hV]
  replace hV := Lib.hid hV
  go_enter Tryz.func131, Tryz.ntmps131
  go_wp2_with fail
  go_loop [3] (fun u => ∃ k : Nat, k ≤ l.length ∧ u = .int .i64 k ∧ Hid (k + (At.tw At.letter (l.drop k)).length = V)) (fun u => l.length - (intOf u).toNat)
  case atStart => exact ⟨0, by omega, rfl, Lib.hid (by rw [← hV.out]; simp)⟩
  case round =>
    obtain ⟨k, hk, rfl, hf⟩ := hrel
    rcases Nat.lt_or_eq_of_le hk with hlt | rfl
    · have hx := run_byte hlt w
      rcases pletter_tests l[k] with ⟨g1, g2, h⟩ | ⟨g1, h⟩ | ⟨g1, g2, h⟩
      · have hf2 : Hid (k + 1 + (At.tw At.letter (l.drop (k + 1))).length = V) := Lib.hid (by have := hf.out; rw [At.tw_at hlt h] at this; omega)
        clear h
        go_wp2
        go_round
        case rel => exact ⟨k + 1, by omega, by go_num, hf2⟩
        case measure => simp [intOf]; omega
      all_goals
        have hfin : Hid (V = k) := Lib.hid (by have := hf.out; rw [At.tw_not hlt h] at this; omega)
        clear h
        go_wp2
        go_returns
        exact ⟨by rw [hfin.out]; rfl, rfl⟩
    · have hfin : Hid (V = l.length) := Lib.hid (by have := hf.out; rw [At.tw_end (by omega)] at this; omega)
      go_wp2
      go_returns
      exact ⟨by rw [hfin.out]; rfl, rfl⟩

set_option maxHeartbeats 4000000 in
set_option maxRecDepth 100000 in
theorem pbare_any (l : List UInt8) (w : World) :
    Calls Tryz.prog 168 #[.string (bs l)] w fun e w' => e = .returned (.bool (At.bare l)) ∧ Below w.heap.size w w' := by
  go_enter Tryz.func168, Tryz.ntmps168
  go_wp2_with fail
  go_loopw [] (fun wr => ∃ pos : Nat, Hid (wr.heap[w.heap.size]? = some (.stringIter (bs l) pos)) ∧ Hid ((Ru.runes l).all At.okRune = (Ru.runes (l.drop pos)).all At.okRune) ∧ Below w.heap.size w wr)
    (fun wr => l.length - wr.iterPos w.heap.size)
  case atStart => exact ⟨0, Lib.hid (iter_new _ _ _ rfl), Lib.hid rfl, ext_alloc _ _⟩
  case round =>
    obtain ⟨pos, hit, hD, hb⟩ := hrel
    by_cases hp : pos < l.length
    · obtain ⟨x, k, hk, _, hd, hr⟩ := rune_at hp
      have hnx := run_next_rune hit.out hp hd
      replace hd := Lib.hid hd
      replace hr := Lib.hid hr
      have hit2 := Lib.hid (Lib.iterAt_heap wr w.heap.size (bs l) pos (pos + k) hit.out)
      have hb2 := Lib.below_iterAt hb (k := w.heap.size) (Nat.le_refl _) (bs l) (pos + k)
      have hpos : Hid (wr.iterPos w.heap.size = pos) := Lib.hid (by simp only [World.iterPos, hit.out])
      have hpos2 : Hid ((wr.iterAt w.heap.size (bs l) (pos + k)).iterPos w.heap.size = pos + k) := Lib.hid (by simp only [World.iterPos, hit2.out])
      have hbl := at_blank x
      rcases bare_split x with ⟨a, h⟩ | ⟨a, b, h⟩ | ⟨a, b, c, h⟩ | ⟨a, b, c, d, h⟩ | ⟨a, b, c, d, h⟩
      case inr.inr.inr.inr =>
        have hD2 : Hid ((Ru.runes l).all At.okRune = (Ru.runes (l.drop (pos + k))).all At.okRune) := Lib.hid (by rw [hD.out, hr.out, List.all_cons, h, Bool.true_and])
        rw [a] at hbl
        clear a h
        go_wp2_with (go_at_call 55; refine (hbl _).mono ?_; rintro e w' ⟨rfl, rfl⟩)
        go_roundw
        case rel => exact ⟨pos + k, hit2, hD2, hb2⟩
        case measure => rw [hpos.out, hpos2.out]; omega
      all_goals
        have hfin : Hid (At.bare l = false) := Lib.hid (by unfold At.bare; rw [hD.out, hr.out, List.all_cons, h, Bool.false_and, Bool.false_and])
        rw [a] at hbl
        clear a h
        go_wp2_with (go_at_call 55; refine (hbl _).mono ?_; rintro e w' ⟨rfl, rfl⟩)
        go_returns
        exact ⟨by rw [hfin.out]; rfl, hb2⟩
    · have hnx := run_next_done hit.out hp
      have hall : (Ru.runes l).all At.okRune = true := by
        rw [hD.out, List.drop_eq_nil_of_le (by omega)]; rfl
      have hfin : Hid (At.bare l = decide (l ≠ [])) := Lib.hid (by unfold At.bare; rw [hall, Bool.true_and])
      clear hall hD
      rcases l with _ | ⟨b, r⟩
      · have ht := text_nil
        go_wp2_with fail
        go_returns
        exact ⟨by rw [hfin.out]; rfl, hb⟩
      · have ht := text_cons b r
        go_wp2_with fail
        go_returns
        exact ⟨by rw [hfin.out]; rfl, hb⟩

set_option maxHeartbeats 1000000 in
set_option maxRecDepth 100000 in
theorem pstyle_any (l : List UInt8) (w : World) (hl : l.length ≤ 140737488355328) :
    Calls Tryz.prog 102 #[.string (bs l)] w fun e w' => e = .returned (.bool (At.style l)) ∧ w = w' := by
  have hsz := bs_size l
  go_enter Tryz.func102, Tryz.ntmps102
  go_wp2_with fail
  go_loop [6] (fun u => ∃ k : Nat, k ≤ l.length ∧ u = .int .i64 k ∧ Hid (l.all At.print = (l.drop k).all At.print)) (fun u => l.length - (intOf u).toNat)
  case atStart => exact ⟨0, by omega, rfl, Lib.hid rfl⟩
  case round =>
    obtain ⟨k, hk, rfl, hf⟩ := hrel
    by_cases hlt : k < l.length
    · have hx := run_byte hlt w
      have hd : (l.drop k).all At.print = (At.print l[k] && (l.drop (k + 1)).all At.print) := by rw [List.drop_eq_getElem_cons hlt, List.all_cons]
      rcases print_tests l[k] with ⟨g1, h⟩ | ⟨g1, g2, h⟩ | ⟨g1, g2, h⟩
      case inr.inr =>
        have hf2 : Hid (l.all At.print = (l.drop (k + 1)).all At.print) := Lib.hid (by rw [hf.out, hd, h, Bool.true_and])
        clear hd h
        go_wp2
        go_round
        case rel => exact ⟨k + 1, by omega, by go_num, hf2⟩
        case measure => simp [intOf]; omega
      all_goals
        have hfin : Hid (At.style l = false) := Lib.hid (by unfold At.style; rw [hf.out, hd, h, Bool.false_and, Bool.false_and])
        clear hd h
        go_wp2
        go_returns
        exact ⟨by rw [hfin.out]; rfl, rfl⟩
    · have hall : l.all At.print = true := by rw [hf.out, List.drop_eq_nil_of_le (by omega)]; rfl
      have hfin : At.style l = decide (1 ≤ l.length ∧ l.length ≤ 4) := by unfold At.style; rw [hall, Bool.true_and]
      clear hall hf
      rcases l with _ | ⟨b, r⟩
      · have ht := text_nil
        replace hfin := Lib.hid hfin
        go_wp2
        go_returns
        exact ⟨by rw [hfin.out]; rfl, rfl⟩
      · have ht := text_cons b r
        have hfin2 : Hid (At.style (b :: r) = decide (((b :: r).length : Int) ≤ 4)) := Lib.hid (by rw [hfin, decide_eq_decide]; simp only [List.length_cons]; omega)
        clear hfin
        obtain ⟨n, hn⟩ : ∃ n, (b :: r).length = n := ⟨_, rfl⟩
        rw [hn] at hsz hfin2
        go_wp2
        go_returns
        exact ⟨by rw [hfin2.out]; rfl, rfl⟩

/-- what a value is: a text, or true -/
def av (p : At.Pr) : Value := if p.alone = true then .iface 4 (.bool true) else .iface 9 (.string (bs p.text))

theorem as_yes (t u : TypeId) (d : TypeDesc) (v : Value) (w : World) (h : Tryz.prog.underlying t = some d) (hd : d = .string ∨ d = .bool) : (Instr.typeAssert (.iface t v) u t true).run Tryz.prog w = .ok (.tuple #[v, .bool true]) w := by
  rcases hd with rfl | rfl <;> simp [Instr.typeAssert, run_underlying h, go_sem, Result.andThen]
theorem as_no_text (v : Value) (u : TypeId) (w : World) : (Instr.typeAssert (.iface 4 v) u 9 true).run Tryz.prog w = .ok (.tuple #[.string ⟨#[]⟩, .bool false]) w := by
  have hz : (zeroValue 9).run Tryz.prog w = .ok (.string ⟨#[]⟩) w := by kernel_rfl
  simp [Instr.typeAssert, run_underlying Tryz.underlying9, go_sem, Result.andThen, hz]
theorem as_no_flag (v : Value) (u : TypeId) (w : World) : (Instr.typeAssert (.iface 9 v) u 4 true).run Tryz.prog w = .ok (.tuple #[.bool false, .bool false]) w := by
  have hz : (zeroValue 4).run Tryz.prog w = .ok (.bool false) w := by kernel_rfl
  simp [Instr.typeAssert, run_underlying Tryz.underlying4, go_sem, Result.andThen, hz]

set_option maxHeartbeats 1000000 in
set_option maxRecDepth 100000 in
theorem asText_text (t : List UInt8) (w : World) :
    Calls Tryz.prog 101 #[.iface 9 (.string (bs t))] w fun e w' => e = .returned (.tuple #[.string (bs t), .bool true]) ∧ w = w' := by
  have ha := fun w => as_yes 9 20 _ (.string (bs t)) w Tryz.underlying9 (.inl rfl)
  go_enter Tryz.func101, Tryz.ntmps101
  go_wp2
  go_ret2
  exact ⟨rfl, rfl⟩
set_option maxHeartbeats 1000000 in
set_option maxRecDepth 100000 in
theorem asText_flag (w : World) :
    Calls Tryz.prog 101 #[.iface 4 (.bool true)] w fun e w' => e = .returned (.tuple #[.string ⟨#[]⟩, .bool false]) ∧ w = w' := by
  have ha := fun w => as_no_text (.bool true) 20 w
  go_enter Tryz.func101, Tryz.ntmps101
  go_wp2
  go_ret2
  exact ⟨rfl, rfl⟩
end Go.Proofs.YtmmgfoepfapnkaaGreatDoor

namespace Go.Proofs.YtmmgfoepfapnkaaGreatDoor
open Go.RowKit

theorem tabs_size {w : World} (h : ATabs w) : 2 ≤ w.heap.size := by
  have h2 := (h.2 0 (by decide)).1
  rcases Nat.lt_or_ge 1 w.heap.size with h' | h'
  · omega
  · exfalso
    have : w.cell? ⟨1, 2 * 0, none⟩ = none := by
      simp only [World.cell?]
      rw [Array.getElem?_eq_none h']
    first
      | (rw [this] at h2; cases h2)
      | (simp [World.cell?, Array.getElem?_eq_none h'] at h2)
theorem tabs_low {w w' : World} {B : Nat} (h : ATabs w) (hb : Below B w w') (hB : 2 ≤ B) : ATabs w' :=
  ⟨fun c hc => (hb.cell (show 0 < B by omega)).trans (h.1 c hc), fun i hi => ⟨(hb.cell (show 1 < B by omega)).trans (h.2 i hi).1, (hb.cell (show 1 < B by omega)).trans (h.2 i hi).2⟩⟩

/-- the first rune, the last one -/
def atHd (l : List UInt8) : Nat := (Ru.runes l).headD 0
def atLt (l : List UInt8) : Nat := (Ru.runes l).getLastD 0

set_option maxHeartbeats 1000000 in
set_option maxRecDepth 100000 in
theorem at_first_some (l : List UInt8) (hne : l ≠ []) (w : World) :
    Calls Tryz.prog 53 #[.string (bs l)] w fun e w' => e = .returned (.tuple #[.int .i32 (atHd l : Int), .bool true]) ∧ Below w.heap.size w w' := by
  have hp : 0 < l.length := List.length_pos_iff.2 hne
  obtain ⟨x, k, hk, hv, hd, hD2⟩ := runes_next (D := []) hp rfl
  have hx : atHd l = x := by unfold atHd; rw [← hD2]; rfl
  replace hx := Lib.hid hx
  replace hne := Lib.hid hne
  clear hD2
  go_enter Tryz.func53, Tryz.ntmps53
  go_wp2
  go_loopw [] (fun wr => Hid (wr.heap[w.heap.size]? = some (.stringIter (bs l) 0)) ∧ Below w.heap.size w wr) (fun _ => 0)
  case atStart => exact ⟨Lib.hid (iter_new _ _ _ rfl), ext_alloc _ _⟩
  case round =>
    obtain ⟨hit, hb⟩ := hrel
    have hnx := run_next_rune hit.out hp hd
    replace hd := Lib.hid hd
    go_wp2
    go_ret2
    exact ⟨by rw [hx.out]; rfl, Lib.below_iterAt hb (Nat.le_refl _) _ _⟩

set_option maxHeartbeats 1000000 in
set_option maxRecDepth 100000 in
theorem at_last_some (l : List UInt8) (hne : l ≠ []) (w : World) (hs : l.length ≤ 1000000000000) (hT : ATabs w) :
    Calls Tryz.prog 54 #[.string (bs l)] w fun e w' => e = .returned (.tuple #[.int .i32 (atLt l : Int), .bool true]) ∧ Below w.heap.size w w' := by
  have h0 : (bs l).toList.isEmpty = false := by rw [bs_toList]; simpa using hne
  have hx : ((Lib.decodeLastL (bs l).data.toList).1) = atLt l := by
    unfold atLt
    have := Ru.runes_last l hne
    rw [List.getLastD_eq_getLast?, this]
    simp [bs]
  replace hx := Lib.hid hx
  replace hne := Lib.hid hne
  replace hT := Lib.hid hT
  go_enter Tryz.func54, Tryz.ntmps54
  go_wp2_with (go_at_call 75; refine (Tryz.utf8_DecodeLastRuneInString (bs l) _ (by rw [bs_size]; omega) hT.out).mono ?_; rintro e w' ⟨rfl, hb⟩)
  go_ret2
  exact ⟨by rw [hx.out]; rfl, hb⟩

theorem name_rune (x : Nat) : (decide ((x : Int) < 32) = true ∧ At.nameRune x = false) ∨ (decide ((x : Int) < 32) = false ∧ (decide (x < 128) && decide (UInt8.ofNat x ∈ At.sharp)) = true ∧ At.nameRune x = false) ∨
    (decide ((x : Int) < 32) = false ∧ (decide (x < 128) && decide (UInt8.ofNat x ∈ At.sharp)) = false ∧ At.nameRune x = true) := by
  have e1 : decide ((x : Int) < 32) = decide (x < 32) := by rw [decide_eq_decide]; omega
  rw [e1]
  unfold At.nameRune
  cases decide (x < 32) <;> cases (decide (x < 128) && decide (UInt8.ofNat x ∈ At.sharp)) <;> simp

set_option maxHeartbeats 8000000 in
set_option maxRecDepth 100000 in
theorem pname_any (l : List UInt8) (w : World) (hl : l.length ≤ 1000000000) (hT : ATabs w) :
    Calls Tryz.prog 32 #[.string (bs l)] w fun e w' => e = .returned (.bool (At.name l)) ∧ Below w.heap.size w w' := by
  have hsz := bs_size l
  have hsp : At.name l = (decide (1 ≤ l.length ∧ l.length ≤ 60) && decide (Ru.enc (Ru.runes l) = l) && !At.blank ((Ru.runes l).headD 0) && !At.blank ((Ru.runes l).getLastD 0) && (Ru.runes l).all At.nameRune) := rfl
  by_cases h0 : l = []
  · subst h0
    have hfin : Hid (At.name [] = false) := Lib.hid (by rw [hsp]; rfl)
    have ht := text_nil
    clear hsp
    go_enter Tryz.func32, Tryz.ntmps32
    go_wp2_with fail
    go_ret
    exact ⟨by rw [hfin.out]; rfl, Below.refl _ _⟩
  · have ht : (bs l).toList.isEmpty = false := by rw [bs_toList]; simpa using h0
    have hpos := List.length_pos_iff.2 h0
    by_cases h60 : l.length ≤ 60
    · have hl2 : decide ((60 : Int) < (l.length : Int)) = false := by simp; omega
      rw [decide_eq_true ⟨hpos, h60⟩, Bool.true_and] at hsp
      have hvd := valid_any l w (by omega) hT
      cases hv : decide (Ru.enc (Ru.runes l) = l) with
      | false =>
        rw [hv] at hvd hsp
        have hfin : Hid (At.name l = false) := Lib.hid (by rw [hsp]; rfl)
        clear hsp hv
        go_enter Tryz.func32, Tryz.ntmps32
        go_wp2_with (go_at_call 51; refine hvd.mono ?_; rintro e w1 ⟨rfl, hb1⟩)
        go_ret
        exact ⟨by rw [hfin.out]; rfl, hb1⟩
      | true =>
        rw [hv] at hvd hsp
        rw [Bool.true_and] at hsp
        replace hsp := Lib.hid hsp
        replace hT := Lib.hid hT
        clear hv
        go_enter Tryz.func32, Tryz.ntmps32
        go_wp2_with (go_at_call 51; refine hvd.mono ?_; rintro e w1 ⟨rfl, hb1⟩)
        have hT1 := Lib.hid (tabs_ext hT.out hb1)
        replace hb1 := Lib.hid hb1
        go_loopw [] (fun wr => ∃ pos : Nat, Hid (wr.heap[w1.heap.size]? = some (.stringIter (bs l) pos)) ∧ Hid ((Ru.runes l).all At.nameRune = (Ru.runes (l.drop pos)).all At.nameRune) ∧ Below w1.heap.size w1 wr)
          (fun wr => l.length - wr.iterPos w1.heap.size)
        case atStart => exact ⟨0, Lib.hid (iter_new _ _ _ rfl), Lib.hid rfl, ext_alloc _ _⟩
        case round =>
          obtain ⟨pos, hit, hD, hb⟩ := hrel
          by_cases hp : pos < l.length
          · obtain ⟨x, k, hk, _, hd, hr⟩ := rune_at hp
            have hnx := run_next_rune hit.out hp hd
            have hvr : Ru.vr x := by
              have := Ru.decodeL_vr (l.drop pos)
              rw [runes_next.decodeL_drop' l pos, hd] at this; exact this
            have hcr := containsRune_any x hvr
            replace hd := Lib.hid hd
            replace hr := Lib.hid hr
            have hit2 := Lib.hid (Lib.iterAt_heap wr w1.heap.size (bs l) pos (pos + k) hit.out)
            have hb2 := Lib.below_iterAt hb (k := w1.heap.size) (Nat.le_refl _) (bs l) (pos + k)
            have hps : Hid (wr.iterPos w1.heap.size = pos) := Lib.hid (by simp only [World.iterPos, hit.out])
            have hD3 : (Ru.runes l).all At.nameRune = (At.nameRune x && (Ru.runes (l.drop (pos + k))).all At.nameRune) := by rw [hD.out, hr.out, List.all_cons]
            clear hr hvr
            rcases name_rune x with ⟨g1, h⟩ | ⟨g1, g2, h⟩ | ⟨g1, g2, h⟩
            · have hfin : Hid (At.name l = false) := Lib.hid (by rw [hsp.out, hD3, h]; simp)
              clear hD3 h hcr
              go_wp2_with fail
              go_returns
              exact ⟨by rw [hfin.out]; rfl, ext_trans hb1.out hb2⟩
            · have hfin : Hid (At.name l = false) := Lib.hid (by rw [hsp.out, hD3, h]; simp)
              rw [g2] at hcr
              clear hD3 h g2
              go_wp2_with (go_at_call 52; refine (hcr _).mono ?_; rintro e w5 ⟨rfl, hb5⟩)
              go_returns
              exact ⟨by rw [hfin.out]; rfl, ext_trans hb1.out (hb2.trans (hb5.mono hb2.size))⟩
            · have hD2 : Hid ((Ru.runes l).all At.nameRune = (Ru.runes (l.drop (pos + k))).all At.nameRune) := Lib.hid (by rw [hD3, h, Bool.true_and])
              rw [g2] at hcr
              clear hD3 h g2
              go_wp2_with (go_at_call 52; refine (hcr _).mono ?_; rintro e w5 ⟨rfl, hb5⟩)
              have hit5 := Lib.hid (keep hit2.out hb5).1
              have hb6 := hb2.trans (hb5.mono hb2.size)
              have hps5 : Hid (w5.iterPos w1.heap.size = pos + k) := Lib.hid (by simp only [World.iterPos, hit5.out])
              clear hb5 hb2 hit2
              go_wp2_with fail
              go_roundw
              case rel => exact ⟨pos + k, hit5, hD2, hb6⟩
              case measure => rw [hps.out, hps5.out]; omega
          · have hnx := run_next_done hit.out hp
            have hall : (Ru.runes l).all At.nameRune = true := by
              rw [hD.out, List.drop_eq_nil_of_le (by omega)]; rfl
            have hsp2 : At.name l = (!At.blank (atHd l) && !At.blank (atLt l)) := by rw [hsp.out, hall, Bool.and_true]; rfl
            have hTr := Lib.hid (tabs_ext hT1.out hb)
            have hbF := fun w => at_first_some l h0 w
            have hbL := fun w h => at_last_some l h0 w (by omega) h
            have hbB1 := at_blank (atHd l)
            have hbB2 := at_blank (atLt l)
            obtain ⟨B1, hB1⟩ : ∃ B, At.blank (atHd l) = B := ⟨_, rfl⟩
            obtain ⟨B2, hB2⟩ : ∃ B, At.blank (atLt l) = B := ⟨_, rfl⟩
            rw [hB1] at hbB1 hsp2
            rw [hB2] at hbB2 hsp2
            replace hsp2 := Lib.hid hsp2
            replace h0 := Lib.hid h0
            have hbw := Lib.hid (ext_trans hb1.out hb)
            clear hall hD hB1 hB2 hb1 hb
            go_wp2_with fail
            refine (hbF _).mono ?_
            rintro e w5 ⟨rfl, hb5⟩
            have hT5 := Lib.hid (tabs_ext hTr.out hb5)
            replace hbw := Lib.hid (ext_trans hbw.out hb5)
            go_wp2_with fail
            refine (hbL _ hT5.out).mono ?_
            rintro e w6 ⟨rfl, hb6⟩
            replace hbw := Lib.hid (ext_trans hbw.out hb6)
            cases B1 with
            | true =>
              go_wp2_with fail
              refine (hbB1 _).mono ?_
              rintro e w7 ⟨rfl, rfl⟩
              go_wp2_with fail
              go_returns
              exact ⟨by rw [hsp2.out]; rfl, hbw.out⟩
            | false =>
              go_wp2_with fail
              refine (hbB1 _).mono ?_
              rintro e w7 ⟨rfl, rfl⟩
              go_wp2_with fail
              refine (hbB2 _).mono ?_
              rintro e w7 ⟨rfl, rfl⟩
              go_wp2_with fail
              go_returns
              exact ⟨by rw [hsp2.out]; rfl, hbw.out⟩
    · have hl2 : decide ((60 : Int) < (l.length : Int)) = true := by simp; omega
      have hfin : Hid (At.name l = false) := Lib.hid (by rw [hsp, decide_eq_false (by omega)]; rfl)
      clear hsp
      go_enter Tryz.func32, Tryz.ntmps32
      go_wp2_with fail
      go_ret
      exact ⟨by rw [hfin.out]; rfl, Below.refl _ _⟩
end Go.Proofs.YtmmgfoepfapnkaaGreatDoor

namespace Go.Proofs.YtmmgfoepfapnkaaGreatDoor
open Go.RowKit

theorem Ck.tell_word (r : List UInt8) : ∀ (p cur : List UInt8), (∀ b ∈ p, Cl.isGap b = false) → Ck.tell cur (p ++ r) = Ck.tell (cur ++ p) r
  | [], cur, _ => by simp
  | b :: p, cur, h => by
    rw [List.cons_append, Ck.tell, if_neg (by rw [h b (by simp)]; exact Bool.false_ne_true), Ck.tell_word r p (cur ++ [b]) (fun c hc => h c (by simp [hc]))]
    simp
/-- a rune is a gap, one byte long, or has no gap in it -/
theorem rune_gap {l : List UInt8} {pos x k : Nat} (h : pos < l.length) (hd : Utf8.decode (bs l) pos = (x, k)) :
    (x = 32 ∧ k = 1 ∧ Cl.isGap l[pos] = true) ∨ (x = 9 ∧ k = 1 ∧ Cl.isGap l[pos] = true) ∨ (x ≠ 32 ∧ x ≠ 9 ∧ ∀ b ∈ (l.drop pos).take k, Cl.isGap b = false) := by
  rw [← runes_next.decodeL_drop' l pos] at hd
  have hb := List.drop_eq_getElem_cons h
  obtain ⟨b, hbe⟩ : ∃ b, l[pos] = b := ⟨_, rfl⟩
  obtain ⟨r, hre⟩ : ∃ r, l.drop (pos + 1) = r := ⟨_, rfl⟩
  rw [hbe, hre] at hb
  rw [hbe, hb]
  rw [hb] at hd
  have hg : ∀ c : UInt8, c.toNat ≠ 32 → c.toNat ≠ 9 → Cl.isGap c = false := by
    intro c h1 h2
    unfold Cl.isGap
    have e1 : (c == 32) = false := beq_eq_false_iff_ne.2 (fun e => by subst e; exact h1 rfl)
    have e2 : (c == 9) = false := beq_eq_false_iff_ne.2 (fun e => by subst e; exact h2 rfl)
    rw [e1, e2]; rfl
  rcases Nat.lt_or_ge b.toNat 128 with h1 | h1
  · rw [low_rune r h1] at hd
    injection hd with hx hk
    subst hx; subst hk
    by_cases h32 : b.toNat = 32
    · exact .inl ⟨h32, rfl, by rw [show b = 32 from UInt8.toNat_inj.1 h32]; rfl⟩
    · by_cases h9 : b.toNat = 9
      · exact .inr (.inl ⟨h9, rfl, by rw [show b = 9 from UInt8.toNat_inj.1 h9]; rfl⟩)
      · refine .inr (.inr ⟨h32, h9, fun c hc => ?_⟩)
        simp only [List.take_succ_cons, List.take_zero, List.mem_singleton] at hc
        rw [hc]; exact hg b h32 h9
  · have hx := high_rune r h1
    rw [hd] at hx
    simp only at hx
    refine .inr (.inr ⟨by omega, by omega, fun c hc => ?_⟩)
    obtain ⟨_, hle, hct⟩ := Ru.rune_bytes (l := b :: r) (by simp)
    rw [hd] at hle hct
    simp only at hle hct
    obtain ⟨j, hj, rfl⟩ := List.mem_iff_getElem.1 hc
    rw [List.length_take] at hj
    rw [List.getElem_take]
    have hjl : j < (b :: r).length := by omega
    have h128 : 128 ≤ ((b :: r)[j]).toNat := by
      rcases Nat.eq_zero_or_pos j with rfl | hp
      · exact h1
      · have := hct j hp (by omega)
        rw [List.getD_eq_getElem?_getD, List.getElem?_eq_getElem hjl, Option.getD_some] at this
        omega
    exact hg _ (by omega) (by omega)

/-- a rune is a sign below 128, one byte long, or has it not in it -/
theorem rune_sign {c : UInt8} (hc : c.toNat < 128) {l : List UInt8} {pos x k : Nat} (h : pos < l.length) (hd : Utf8.decode (bs l) pos = (x, k)) :
    (x = c.toNat ∧ c ∈ l.drop pos) ∨ (x ≠ c.toNat ∧ c ∉ (l.drop pos).take k) := by
  rw [← runes_next.decodeL_drop' l pos] at hd
  have hb := List.drop_eq_getElem_cons h
  obtain ⟨b, hbe⟩ : ∃ b, l[pos] = b := ⟨_, rfl⟩
  obtain ⟨r, hre⟩ : ∃ r, l.drop (pos + 1) = r := ⟨_, rfl⟩
  rw [hbe, hre] at hb
  rw [hb]
  rw [hb] at hd
  rcases Nat.lt_or_ge b.toNat 128 with h1 | h1
  · rw [low_rune r h1] at hd
    injection hd with hx hk
    subst hx; subst hk
    by_cases e : b = c
    · exact .inl ⟨by rw [e], by rw [e]; simp⟩
    · refine .inr ⟨fun h2 => e (UInt8.toNat_inj.1 h2), fun h2 => ?_⟩
      simp only [List.take_succ_cons, List.take_zero, List.mem_singleton] at h2
      exact e h2.symm
  · have hx := high_rune r h1
    rw [hd] at hx
    simp only at hx
    refine .inr ⟨by omega, fun hc2 => ?_⟩
    obtain ⟨_, hle, hct⟩ := Ru.rune_bytes (l := b :: r) (by simp)
    rw [hd] at hle hct
    simp only at hle hct
    obtain ⟨j, hj, e⟩ := List.mem_iff_getElem.1 hc2
    rw [List.length_take] at hj
    rw [List.getElem_take] at e
    have hjl : j < (b :: r).length := by omega
    have h128 : 128 ≤ ((b :: r)[j]).toNat := by
      rcases Nat.eq_zero_or_pos j with rfl | hp
      · exact h1
      · have := hct j hp (by omega)
        rw [List.getD_eq_getElem?_getD, List.getElem?_eq_getElem hjl, Option.getD_some] at this
        omega
    rw [e] at h128
    omega

theorem bs_is (l q : List UInt8) : ((bs l).toList == q) = decide (l = q) := by
  rw [bs_toList]
  by_cases h : l = q
  · rw [decide_eq_true h]; exact beq_iff_eq.2 h
  · rw [decide_eq_false h]; exact beq_eq_false_iff_ne.2 h
theorem hasPrefix_lit (l p : List UInt8) (w : World) :
    Calls Tryz.prog 127 #[.string (bs l), .string (bs p)] w fun e w' => e = .returned (.bool (p.isPrefixOf l)) ∧ w' = w := by
  have h := Tryz.strings_HasPrefix (bs l) (bs p) w
  rwa [show Lib.hasPrefix (bs l).data.toList (bs p).data.toList = p.isPrefixOf l from by simp [bs, Lib.hasPrefix]] at h

set_option maxHeartbeats 1000000 in
set_option maxRecDepth 100000 in
theorem pieceWord_any (l : List UInt8) (w : World) :
    Calls Tryz.prog 97 #[.string (bs l)] w fun e w' => e = .returned (.bool (Ck.pw l)) ∧ w' = w := by
  have h1 := fun w => hasPrefix_lit l [110, 97, 109, 101, 61] w
  have h2 := fun w => hasPrefix_lit l [102, 105, 108, 101, 61] w
  have h3 := fun w => hasPrefix_lit l [99, 111, 109, 109, 101, 110, 116, 61] w
  have t4 : ((bs l).toList == [97, 112, 112, 101, 110, 100]) = decide (l = At.wAppend) := bs_is l At.wAppend
  have t5 : ((bs l).toList == [110, 111, 108, 105, 110, 101]) = decide (l = At.wNoline) := bs_is l At.wNoline
  unfold Ck.pw
  obtain ⟨b1, e1⟩ : ∃ b, [110, 97, 109, 101, 61].isPrefixOf l = b := ⟨_, rfl⟩
  obtain ⟨b2, e2⟩ : ∃ b, [102, 105, 108, 101, 61].isPrefixOf l = b := ⟨_, rfl⟩
  obtain ⟨b3, e3⟩ : ∃ b, [99, 111, 109, 109, 101, 110, 116, 61].isPrefixOf l = b := ⟨_, rfl⟩
  obtain ⟨b4, e4⟩ : ∃ b, decide (l = At.wAppend) = b := ⟨_, rfl⟩
  obtain ⟨b5, e5⟩ : ∃ b, decide (l = At.wNoline) = b := ⟨_, rfl⟩
  rw [e1] at h1
  rw [e2] at h2
  rw [e3] at h3
  rw [e4] at t4
  rw [e5] at t5
  rw [e1, e2, e3, e4, e5]
  clear e1 e2 e3 e4 e5
  change ∀ w, Calls Tryz.prog 127 #[.string (bs l), .string ⟨#[110, 97, 109, 101, 61]⟩] w _ at h1
  change ∀ w, Calls Tryz.prog 127 #[.string (bs l), .string ⟨#[102, 105, 108, 101, 61]⟩] w _ at h2
  change ∀ w, Calls Tryz.prog 127 #[.string (bs l), .string ⟨#[99, 111, 109, 109, 101, 110, 116, 61]⟩] w _ at h3
  go_enter Tryz.func97, Tryz.ntmps97
  go_wp2_with fail
  refine (h1 _).mono ?_
  rintro e w1 ⟨rfl, rfl⟩
  cases b1 with
  | true =>
    go_wp2_with fail
    go_ret
    exact ⟨rfl, rfl⟩
  | false =>
  go_wp2_with fail
  refine (h2 _).mono ?_
  rintro e w2 ⟨rfl, rfl⟩
  cases b2 with
  | true =>
    go_wp2_with fail
    go_ret
    exact ⟨rfl, rfl⟩
  | false =>
  go_wp2_with fail
  refine (h3 _).mono ?_
  rintro e w3 ⟨rfl, rfl⟩
  cases b3 with
  | true =>
    go_wp2_with fail
    go_ret
    exact ⟨rfl, rfl⟩
  | false =>
  cases b4 with
  | true =>
    go_wp2_with fail
    go_ret
    exact ⟨rfl, rfl⟩
  | false =>
  cases b5 <;>
  · go_wp2_with fail
    go_ret
    exact ⟨rfl, rfl⟩
end Go.Proofs.YtmmgfoepfapnkaaGreatDoor

namespace Go.Proofs.YtmmgfoepfapnkaaGreatDoor
open Go.RowKit

set_option maxHeartbeats 1000000 in
set_option maxRecDepth 100000 in
theorem tells_any (l : List UInt8) (w : World) (hl : l.length ≤ 1000000000) :
    Calls Tryz.prog 79 #[.string (bs l)] w fun e w' => e = .returned (.bool (Ck.tell [] l)) ∧ Below w.heap.size w w' := by
  have hsz := bs_size l
  go_enter Tryz.func79, Tryz.ntmps79
  go_wp2_with fail
  go_loopw [3] (fun u wr => ∃ fr pos : Nat, fr ≤ pos ∧ pos ≤ l.length ∧ u = .int .i64 (fr : Int) ∧ Hid (wr.heap[w.heap.size]? = some (.stringIter (bs l) pos)) ∧ Hid (Ck.tell (mid l fr pos) (l.drop pos) = Ck.tell [] l) ∧ Below w.heap.size w wr)
    (fun _ wr => l.length - wr.iterPos w.heap.size)
  case atStart => exact ⟨0, 0, by omega, by omega, rfl, Lib.hid (iter_new _ _ _ rfl), Lib.hid (by simp [mid]), ext_alloc _ _⟩
  case round =>
    obtain ⟨fr, pos, hfp, hpl, rfl, hit, hD, hb⟩ := hrel
    by_cases hp : pos < l.length
    · obtain ⟨x, k, hk, hkl, hd, _⟩ := rune_at hp
      have hnx := run_next_rune hit.out hp hd
      have hg := rune_gap hp hd
      replace hd := Lib.hid hd
      have hit2 := Lib.hid (Lib.iterAt_heap wr w.heap.size (bs l) pos (pos + k) hit.out)
      have hb2 := Lib.below_iterAt hb (k := w.heap.size) (Nat.le_refl _) (bs l) (pos + k)
      have hpos : Hid (wr.iterPos w.heap.size = pos) := Lib.hid (by simp only [World.iterPos, hit.out])
      have hpos2 : Hid ((wr.iterAt w.heap.size (bs l) (pos + k)).iterPos w.heap.size = pos + k) := Lib.hid (by simp only [World.iterPos, hit2.out])
      rcases hg with ⟨rfl, rfl, hgp⟩ | ⟨rfl, rfl, hgp⟩ | ⟨h32, h9, hno⟩
      case inr.inr =>
        have t1 : ((x : Int) == 32) = false := beq_eq_false_iff_ne.2 (by omega)
        have t2 : ((x : Int) == 9) = false := beq_eq_false_iff_ne.2 (by omega)
        have hD2 : Hid (Ck.tell (mid l fr (pos + k)) (l.drop (pos + k)) = Ck.tell [] l) := Lib.hid (by
          rw [← hD.out]
          have e1 : l.drop pos = (l.drop pos).take k ++ l.drop (pos + k) := by rw [← List.drop_drop, List.take_append_drop]
          have e2 : mid l fr (pos + k) = mid l fr pos ++ (l.drop pos).take k := by
            unfold mid
            rw [show pos + k - fr = (pos - fr) + k from by omega, List.take_add, List.drop_drop, show fr + (pos - fr) = pos from by omega]
          rw [e2, ← Ck.tell_word _ _ _ hno, ← e1])
        clear h32 h9 hno
        go_wp2_with fail
        go_roundw
        case rel => exact ⟨fr, pos + k, by omega, by omega, rfl, hit2, hD2, hb2⟩
        case measure => rw [hpos.out, hpos2.out]; omega
      all_goals
        have hcut := fun w => run_mid (S := l) hfp hpl w
        have hst : Hid (Ck.tell [] l = (Ck.pw (mid l fr pos) || Ck.tell [] (l.drop (pos + 1)))) := Lib.hid (by rw [← hD.out, List.drop_eq_getElem_cons hp, Ck.tell, if_pos hgp])
        have hpw := fun w => pieceWord_any (mid l fr pos) w
        obtain ⟨M, hM⟩ : ∃ M, mid l fr pos = M := ⟨_, rfl⟩
        rw [hM] at hcut hst hpw
        obtain ⟨b, hbM⟩ : ∃ b, Ck.pw M = b := ⟨_, rfl⟩
        rw [hbM] at hpw hst
        clear hM hbM hgp
        cases b with
        | true =>
          have hfin : Hid (Ck.tell [] l = true) := Lib.hid (by rw [hst.out]; rfl)
          go_wp2_with (go_at_call 97; refine (hpw _).mono ?_; rintro e w' ⟨rfl, rfl⟩)
          go_returns
          exact ⟨by rw [hfin.out]; rfl, hb2⟩
        | false =>
          have hD2 : Hid (Ck.tell (mid l (pos + 1) (pos + 1)) (l.drop (pos + 1)) = Ck.tell [] l) := Lib.hid (by rw [hst.out, show mid l (pos + 1) (pos + 1) = [] from by simp [mid]]; rfl)
          go_wp2_with (go_at_call 97; refine (hpw _).mono ?_; rintro e w' ⟨rfl, rfl⟩)
          go_roundw
          case rel => exact ⟨pos + 1, pos + 1, by omega, by omega, by go_num, hit2, hD2, hb2⟩
          case measure => rw [hpos.out, hpos2.out]; omega
    · have hnx := run_next_done hit.out hp
      have hcut := fun w => run_from (S := l) (show fr ≤ l.length by omega) w
      have hst : Hid (Ck.tell [] l = Ck.pw (l.drop fr)) := Lib.hid (by
        rw [← hD.out, List.drop_eq_nil_of_le (by omega), Ck.tell, show mid l fr pos = l.drop fr from by unfold mid; rw [List.take_of_length_le (by rw [List.length_drop]; omega)]])
      have hpw := fun w => pieceWord_any (l.drop fr) w
      obtain ⟨M, hM⟩ : ∃ M, l.drop fr = M := ⟨_, rfl⟩
      rw [hM] at hcut hst hpw
      clear hM
      go_wp2_with (go_at_call 97; refine (hpw _).mono ?_; rintro e w' ⟨rfl, rfl⟩)
      go_returns
      exact ⟨by rw [hst.out]; rfl, hb⟩

set_option maxHeartbeats 1000000 in
set_option maxRecDepth 100000 in
theorem piece_any (p : Bk.Pl) (w : World) (hl : p.op.info.length ≤ 1000000000) :
    Calls Tryz.prog 63 #[.agg #[.int .i64 (p.line : Int), .int .u8 (p.op.c.toNat : Int), .int .i64 (p.op.n : Int), .int .i64 (p.op.ind : Int), .string (bs p.op.info), .int .i64 (p.first : Int), .int .i64 (p.last : Int), .bool p.closed]] w fun e w' => e = .returned (.bool (Ck.piece p)) ∧ Below w.heap.size w w' := by
  have ht := fun w => tells_any p.op.info w hl
  unfold Ck.piece
  obtain ⟨ln, op, fi, la, cl⟩ := p
  simp only at ht ⊢
  obtain ⟨c, n, ind, info⟩ := op
  simp only at ht ⊢
  obtain ⟨T, hT⟩ : ∃ T, Ck.tell [] info = T := ⟨_, rfl⟩
  rw [hT] at ht ⊢
  clear hT hl
  have hb0 := ext_alloc w (.cells #[.int .i64 (ln : Int), .int .u8 (c.toNat : Int), .int .i64 (n : Int), .int .i64 (ind : Int), .string (bs info), .int .i64 (fi : Int), .int .i64 (la : Int), .bool cl] 107)
  go_enter Tryz.func63, Tryz.ntmps63
  cases cl with
  | false =>
    go_wp2_with fail
    go_ret
    exact ⟨rfl, hb0⟩
  | true =>
    by_cases h0 : ind = 0
    · subst h0
      go_wp2_with fail
      refine (ht _).mono ?_
      rintro e w1 ⟨rfl, hb1⟩
      have hb2 := Lib.hid (ext_trans hb0 hb1)
      go_wp2_with fail
      go_ret
      exact ⟨by simp, hb2.out⟩
    · have h1 : ((ind : Int) == 0) = false := beq_eq_false_iff_ne.2 (by omega)
      go_wp2_with fail
      go_ret
      exact ⟨by simp [h0], hb0⟩

set_option maxHeartbeats 1000000 in
set_option maxRecDepth 100000 in
theorem path_any (l : List UInt8) (w : World) (hl : l.length ≤ 1000000000) (hT : ATabs w) :
    Calls Tryz.prog 13 #[.string (bs l)] w fun e w' => e = .returned (.bool (Ck.path l)) ∧ Below w.heap.size w w' := by
  have hn := pname_any l w hl hT
  unfold Ck.path
  obtain ⟨b, hbn⟩ : ∃ b, At.name l = b := ⟨_, rfl⟩
  rw [hbn] at hn ⊢
  clear hbn
  replace hT := Lib.hid hT
  go_enter Tryz.func13, Tryz.ntmps13
  go_wp2_with fail
  refine hn.mono ?_
  rintro e w1 ⟨rfl, hb1⟩
  cases b with
  | false =>
    go_wp2_with fail
    go_ret
    exact ⟨rfl, hb1⟩
  | true =>
    replace hb1 := Lib.hid hb1
    have hk1 : w.heap.size ≤ w1.heap.size := hb1.out.size
    go_wp2_with fail
    go_loopw [] (fun wr => ∃ pos : Nat, Hid (wr.heap[w1.heap.size]? = some (.stringIter (bs l) pos)) ∧ Hid ((58 : UInt8) ∈ l ↔ (58 : UInt8) ∈ l.drop pos) ∧ Below w1.heap.size w1 wr)
      (fun wr => l.length - wr.iterPos w1.heap.size)
    case atStart => exact ⟨0, Lib.hid (iter_new _ _ _ rfl), Lib.hid Iff.rfl, ext_alloc _ _⟩
    case round =>
      obtain ⟨pos, hit, hD, hb⟩ := hrel
      by_cases hp : pos < l.length
      · obtain ⟨x, k, hk, hkl, hd, _⟩ := rune_at hp
        have hnx := run_next_rune hit.out hp hd
        have hg := rune_sign (c := 58) (by decide) hp hd
        replace hd := Lib.hid hd
        have hit2 := Lib.hid (Lib.iterAt_heap wr w1.heap.size (bs l) pos (pos + k) hit.out)
        have hb2 := Lib.below_iterAt hb (k := w1.heap.size) (Nat.le_refl _) (bs l) (pos + k)
        have hpos : Hid (wr.iterPos w1.heap.size = pos) := Lib.hid (by simp only [World.iterPos, hit.out])
        have hpos2 : Hid ((wr.iterAt w1.heap.size (bs l) (pos + k)).iterPos w1.heap.size = pos + k) := Lib.hid (by simp only [World.iterPos, hit2.out])
        have hbz := Lib.hid (hb1.out.trans (hb2.mono hk1))
        rcases hg with ⟨hx, hin⟩ | ⟨hx, hno⟩
        · have t1 : ((x : Int) == 58) = true := beq_iff_eq.2 (by rw [hx]; rfl)
          have hfin : Hid (decide ((58 : UInt8) ∉ l) = false) := Lib.hid (decide_eq_false fun h => h (hD.out.2 hin))
          clear hx hin
          go_wp2_with fail
          go_returns
          exact ⟨by rw [hfin.out]; rfl, hbz.out⟩
        · have t1 : ((x : Int) == 58) = false := beq_eq_false_iff_ne.2 (fun e => hx (by simpa using Int.ofNat.inj e))
          have hD2 : Hid ((58 : UInt8) ∈ l ↔ (58 : UInt8) ∈ l.drop (pos + k)) := Lib.hid (by
            rw [hD.out, show l.drop pos = (l.drop pos).take k ++ l.drop (pos + k) from by rw [← List.drop_drop, List.take_append_drop], List.mem_append]
            exact ⟨fun h => h.elim (fun h => absurd h hno) id, .inr⟩)
          clear hx hno
          go_wp2_with fail
          go_roundw
          case rel => exact ⟨pos + k, hit2, hD2, hb2⟩
          case measure => rw [hpos.out, hpos2.out]; omega
      · have hnx := run_next_done hit.out hp
        have hfin : Hid (decide ((58 : UInt8) ∉ l) = true) := Lib.hid (decide_eq_true fun h => by
          have := hD.out.1 h
          rw [List.drop_eq_nil_of_le (by omega)] at this; cases this)
        have hbz := Lib.hid (hb1.out.trans (hb.mono hk1))
        go_wp2_with fail
        go_returns
        exact ⟨by rw [hfin.out]; rfl, hbz.out⟩
end Go.Proofs.YtmmgfoepfapnkaaGreatDoor

namespace Go.Proofs.YtmmgfoepfapnkaaGreatDoor
open Go.RowKit

theorem below_four {B g : Nat} {w w1 : World} (h : Below B w w1) (hg : B ≤ g) (a b c d : Value) : Below B w ((((w1.setCell ⟨g, 0, none⟩ a).setCell ⟨g, 1, none⟩ b).setCell ⟨g, 2, none⟩ c).setCell ⟨g, 3, none⟩ d) :=
  (((h.setCell (p := ⟨g, 0, none⟩) hg a).setCell (p := ⟨g, 1, none⟩) hg b).setCell (p := ⟨g, 2, none⟩) hg c).setCell (p := ⟨g, 3, none⟩) hg d

set_option maxHeartbeats 1000000 in
set_option maxRecDepth 100000 in
theorem fault_any (code ln : Nat) (p nm : List UInt8) (A : Option Addr) (n c : Nat) (w : World) (hp : p.length ≤ 140737488355328) :
    Calls Tryz.prog 60 #[.int .i64 (code : Int), .agg #[.string (bs p), .slice A n c], .int .i64 (ln : Int), .string (bs nm)] w fun e w' => e = .returned (fltv ⟨code, p, ln, nm⟩) ∧ Below w.heap.size w w' := by
  have hcl := fun w => at_clone p w hp
  go_enter Tryz.func60, Tryz.ntmps60
  go_wp2_with fail
  refine (hcl _).mono ?_
  rintro e w1 ⟨rfl, hb1⟩
  have h2 := (keep (blk_two w _ _) hb1).1
  obtain ⟨k0, k1, k2, k3⟩ := four h2
  have kf := blk_free h2
  have hB := Lib.hid (ext_trans (ext_trans (ext_alloc _ _) (ext_alloc _ _)) hb1)
  clear h2 hb1 hcl
  go_wp2_with fail
  exact bodyPost_ret (v := fltv ⟨code, p, ln, nm⟩) (by rw [results_cell1 rfl]; go_simp) rfl ⟨rfl, below_four hB.out (by omega) _ _ _ _⟩

set_option maxHeartbeats 1000000 in
set_option maxRecDepth 100000 in
theorem ofFile_any (d : Ck.Def) (A : Option Addr) (n c : Nat) (w : World) :
    Calls Tryz.prog 37 #[.agg (darr d (.slice A n c))] w fun e w' => e = .returned (.bool (Ck.isF d.attr)) ∧ Below w.heap.size w w' := by
  obtain ⟨doc, line, frm, upto, a, key, lines⟩ := d
  obtain ⟨lang, name, file, style, ap, nl⟩ := a
  unfold Ck.isF
  simp only
  have hb0 := ext_alloc w (.cells (darr ⟨doc, line, frm, upto, ⟨lang, name, file, style, ap, nl⟩, key, lines⟩ (.slice A n c)) 52)
  go_enter Tryz.func37, Tryz.ntmps37
  go_wp2_with fail
  go_ret
  exact ⟨by simp; rw [bs_toList]; cases file <;> simp, hb0⟩

theorem Ck.tooLong_at {l : List Ck.Src} (h16 : l.length ≤ 16) {k : Nat} (hk : k < l.length) (hd : ∀ s ∈ l.take k, s.data.length ≤ 65536) (h : 65536 < l[k].data.length) : Ck.tooLong l = ⟨3, l[k].path, 0, []⟩ := by
  have e : ((l.take k) ++ (l.drop k)).find? (fun s => decide (65536 < s.data.length)) = some l[k] := by
    rw [List.find?_append, List.find?_eq_none.2 (fun x hx => by have := hd x hx; simp only [decide_eq_true_eq]; omega), Option.none_or, List.drop_eq_getElem_cons hk, List.find?_cons_of_pos (by simpa using h)]
  rw [List.take_append_drop] at e
  unfold Ck.tooLong
  rw [if_neg (by omega), e]
theorem Ck.tooLong_no {l : List Ck.Src} (h16 : l.length ≤ 16) (hd : ∀ s ∈ l, s.data.length ≤ 65536) : Ck.tooLong l = Ck.noF := by
  unfold Ck.tooLong
  rw [if_neg (by omega), List.find?_eq_none.2 (fun x hx => by have := hd x hx; simp only [decide_eq_true_eq]; omega)]

set_option maxHeartbeats 1000000 in
set_option maxRecDepth 100000 in
theorem tooLong_any (l : List Ck.Src) (css : List (List Value)) (A : Option Addr) (c : Nat) (w : World) (h : SRow w w.heap.size A l.length l css) (hl : ∀ s ∈ l, s.path.length ≤ 1000000000) (hn : l.length ≤ 140737488355328) (hdl : ∀ s ∈ l, s.data.length ≤ 9223372036854775807) :
    Calls Tryz.prog 39 #[.slice A l.length c] w fun e w' => e = .returned (fltv (Ck.tooLong l)) ∧ Below w.heap.size w w' := by
  have h0 := heap_alloc_new w (.cells #[.int .i64 0, .string ⟨#[]⟩, .int .i64 0, .string ⟨#[]⟩] 46)
  have hS := Lib.hid h
  replace hl := Lib.hid hl
  replace hdl := Lib.hid hdl
  by_cases h16 : 16 < l.length
  · have hfin : Hid (Ck.tooLong l = ⟨3, [], 0, []⟩) := Lib.hid (by unfold Ck.tooLong; rw [if_pos h16])
    obtain ⟨k0, k1, k2, k3⟩ := four h0
    have kf := blk_free h0
    have hB := ext_alloc w (.cells #[.int .i64 0, .string ⟨#[]⟩, .int .i64 0, .string ⟨#[]⟩] 46)
    clear h h0
    go_enter Tryz.func39, Tryz.ntmps39
    go_wp2_with fail
    exact bodyPost_ret (v := fltv ⟨3, [], 0, []⟩) (by rw [results_cell1 rfl]; go_simp; rfl) rfl ⟨by rw [hfin.out], by first | exact below_four hB (Nat.le_refl _) _ _ _ _ | exact ext_alloc _ _⟩
  · replace h0 := Lib.hid h0
    clear h
    go_enter Tryz.func39, Tryz.ntmps39
    go_wp2_with fail
    obtain ⟨wa, hwa⟩ : ∃ wa, w.alloc (.cells #[.int .i64 0, .string ⟨#[]⟩, .int .i64 0, .string ⟨#[]⟩] 46) = wa := ⟨_, rfl⟩
    have hba : Below w.heap.size w wa := by rw [← hwa]; exact ext_alloc _ _
    have hza : wa.heap.size = w.heap.size + 1 := by rw [← hwa]; simp
    rw [hwa] at h0 ⊢
    clear hwa
    have hSa := Lib.hid (hS.out.ext hba)
    replace hba := Lib.hid hba
    go_loopw [11] (fun u wr => ∃ k : Nat, k ≤ l.length ∧ u = .int .i64 (k : Int) ∧ Hid (∀ s ∈ l.take k, s.data.length ≤ 65536) ∧ Hid (Below wa.heap.size wa wr)) (fun u _ => l.length - (intOf u).toNat)
    case atStart => exact ⟨0, by omega, rfl, Lib.hid (by simp), Lib.hid (Below.refl _ _)⟩
    case round =>
      obtain ⟨k, hk, rfl, hd, hb⟩ := hrel
      have hr0 := (keep h0.out hb.out).1
      have hBr := Lib.hid (ext_trans hba.out hb.out)
      have hgr : w.heap.size < wr.heap.size := (keep h0.out hb.out).2
      rcases Nat.lt_or_ge k l.length with hlt | hge
      · obtain ⟨b, o, rfl, hbb, hc⟩ := (hSa.out.ext hb.out).src_at (by omega)
        obtain ⟨LA, lc, h1, h2, c0, c1⟩ := hc k hlt
        have hpl := hl.out _ (List.getElem_mem hlt)
        have hdd := hdl.out _ (List.getElem_mem hlt)
        have hat := @Ck.tooLong_at l (by omega) k hlt hd.out
        have hsn : Hid (l[k].data.length ≤ 65536 → ∀ s ∈ l.take (k + 1), s.data.length ≤ 65536) := Lib.hid (fun h s hs => by
          rw [List.take_succ_eq_append_getElem hlt] at hs
          rcases List.mem_append.1 hs with hs | hs
          · exact hd.out s hs
          · rw [List.mem_singleton.1 hs]; exact h)
        obtain ⟨x, hx⟩ : ∃ x, l[k] = x := ⟨_, rfl⟩
        rw [hx] at h1 h2 c0 c1 hpl hdd hat hsn
        clear hx hc hd
        obtain ⟨path, data⟩ := x
        simp only at h1 h2 c0 c1 hpl hdd hat hsn
        have hfa := fun w => fault_any 3 0 path [] LA data.length lc w (by omega)
        change ∀ w, Calls Tryz.prog 60 #[.int .i64 3, .agg #[.string (bs path), .slice LA data.length lc], .int .i64 0, .string ⟨#[]⟩] w _ at hfa
        have hd0 := (ext_alloc wr (.cells #[.string (bs path), .slice LA data.length lc] 33))
        obtain ⟨n, hn9⟩ : ∃ n, data.length = n := ⟨_, rfl⟩
        rw [hn9] at c1 hd0 hfa h1 hdd hat hsn h2
        by_cases hbig : 65536 < n
        · have hfin : Hid (Ck.tooLong l = ⟨3, path, 0, []⟩) := Lib.hid (hat hbig)
          have hbi : (65536 : Int) < (n : Int) := by omega
          clear hat hsn
          go_wp2_with fail
          refine (hfa _).mono ?_
          rintro e w2 ⟨rfl, hb2⟩
          have hr2 := (keep hr0 (ext_trans hd0 hb2)).1
          obtain ⟨k0, k1, k2, k3⟩ := four hr2
          have kf := blk_free hr2
          have hB2 := Lib.hid (ext_trans hBr.out (ext_trans hd0 hb2))
          clear hr2 hb2 hd0 hr0
          go_wp2_with fail
          exact bodyPost_ret (v := fltv ⟨3, path, 0, []⟩) (by rw [results_cell1 rfl]; go_simp <;> rfl) rfl ⟨by rw [hfin.out], below_four hB2.out (Nat.le_refl _) _ _ _ _⟩
        · have hbi : ¬ (65536 : Int) < (n : Int) := by omega
          have hs2 := Lib.hid (hsn.out (by omega))
          have hb2 := Lib.hid (ext_trans hb.out hd0)
          clear hat hsn hd0
          go_wp2_with fail
          go_roundw
          case rel => exact ⟨k + 1, by omega, by go_num, hs2, hb2⟩
          case measure => simp [intOf]; omega
      · have hfin : Hid (Ck.tooLong l = Ck.noF) := Lib.hid (Ck.tooLong_no (by omega) (by rw [List.take_of_length_le (by omega)] at hd; exact hd.out))
        obtain ⟨k0, k1, k2, k3⟩ := four hr0
        have kf := blk_free hr0
        have hkl : ¬ (k : Int) < (l.length : Int) := by omega
        clear hr0
        go_wp2_with fail
        exact bodyPost_ret (v := fltv ⟨0, [], 0, []⟩) (by rw [results_cell1 rfl]; go_simp <;> rfl) rfl ⟨by rw [hfin.out]; rfl, below_four hBr.out (Nat.le_refl _) _ _ _ _⟩
end Go.Proofs.YtmmgfoepfapnkaaGreatDoor

namespace Go.Proofs.YtmmgfoepfapnkaaGreatDoor
open Go.RowKit
attribute [local go_sem] canOp readsAs readUpon

/-- texts that may be copied -/
structure DOk (d : Ck.Def) : Prop where
  key : d.key.length ≤ 1000000000
  lang : d.attr.lang.length ≤ 1000000000
  name : d.attr.name.length ≤ 1000000000
  file : d.attr.file.length ≤ 1000000000
  style : d.attr.style.length ≤ 1000000000
  line : ∀ s ∈ d.lines, s.length ≤ 1000000000
  lines : d.lines.length ≤ 1000000000
theorem cell12 {w : World} {g : Nat} {cs : Array Value} {t : TypeId} (h : w.heap[g]? = some (.cells cs t (0, 0))) {j : Nat} {v : Value} (hj : cs[j]? = some v) : w.cell? ⟨g, j, none⟩ = some v := by
  rw [blk_cell h]; exact hj
/-- one cell of a row of texts -/
theorem txt_cell {ls : List (List UInt8)} {w : World} {B : Nat} {A : Option Addr} (h : Row w B 1 A ls.length (scells ls)) {k : Nat} (hk : k < ls.length) :
    ∃ b o, A = some ⟨b, o, none⟩ ∧ b < B ∧ w.cell? ⟨b, o + k, none⟩ = some (.string (bs ls[k])) := by
  obtain ⟨b, o, e, hb, hc⟩ := h.2 (by omega)
  exact ⟨b, o, e, hb, hc k _ (by simp [scells, List.getElem?_map, List.getElem?_eq_getElem hk])⟩

abbrev darr0 : Array Value := #[.int .i64 0, .int .i64 0, .int .i64 0, .int .i64 0, .string ⟨#[]⟩, .string ⟨#[]⟩, .string ⟨#[]⟩, .string ⟨#[]⟩, .bool false, .bool false, .string ⟨#[]⟩, .slice none 0 0]
set_option maxHeartbeats 4000000 in
set_option maxRecDepth 100000 in
theorem copied_any (d : Ck.Def) (A : Option Addr) (c : Nat) (w : World) (hR : Row w w.heap.size 1 A d.lines.length (scells d.lines)) (hlc : d.lines.length ≤ c) (hd : DOk d) :
    Calls Tryz.prog 38 #[.agg (darr d (.slice A d.lines.length c))] w fun e w' => ∃ v, e = .returned (.agg (darr d v)) ∧ w'.ownsRow w.heap.size 9 1 v d.lines.length (scells d.lines) ∧ Below w.heap.size w w' := by
  obtain ⟨hkey, hlang, hname, hfile, hstyle, hline, hlines⟩ := hd
  obtain ⟨doc, line, frm, upto, a, key, lines⟩ := d
  obtain ⟨lang, name, file, style, ap, nl⟩ := a
  simp only at hkey hlang hname hfile hstyle hline hlines hR hlc ⊢
  have hk1 := fun w => at_clone key w (by omega)
  have hk2 := fun w => at_clone lang w (by omega)
  have hk3 := fun w => at_clone name w (by omega)
  have hk4 := fun w => at_clone file w (by omega)
  have hk5 := fun w => at_clone style w (by omega)
  obtain ⟨n, hn9⟩ : ∃ n, lines.length = n := ⟨_, rfl⟩
  rw [hn9] at hR hlc hlines
  replace hn9 := Lib.hid hn9
  replace hline := Lib.hid hline
  replace hR := Lib.hid hR
  simp only [darr]
  obtain ⟨ca, hca⟩ : ∃ ca : List Value, ca = [.int .i64 (doc : Int), .int .i64 (line : Int), .int .i64 (frm : Int), .int .i64 (upto : Int), .string (bs lang), .string (bs name), .string (bs file), .string (bs style), .bool ap, .bool nl, .string (bs key), .slice A n c] := ⟨_, rfl⟩
  have hg1 := blk_one w (.cells ca.toArray 52) (.cells darr0 52)
  have hg2 := blk_two w (.cells ca.toArray 52) (.cells darr0 52)
  have hb0 := ext_trans (ext_alloc w (.cells ca.toArray 52)) (ext_alloc _ (.cells darr0 52))
  obtain ⟨wa, hwa⟩ : ∃ wa, (w.alloc (.cells ca.toArray 52)).alloc (.cells darr0 52) = wa := ⟨_, rfl⟩
  have hza : wa.heap.size = w.heap.size + 2 := by rw [← hwa]; simp
  rw [hwa] at hg1 hg2 hb0
  simp only [darr0, hca] at hwa
  replace hca := Lib.hid hca
  have hRa := Lib.hid (hR.out.ext hb0)
  obtain ⟨q, hq⟩ : ∃ q, w.heap.size = q := ⟨_, rfl⟩
  replace hg2 := Lib.hid hg2
  replace hb0 := Lib.hid hb0
  go_enter Tryz.func38, Tryz.ntmps38
  go_upto_region 2 with fail
  rw [hn9.out, hwa]
  refine wp_region_can [(true, 0), (true, 1), (true, 2), (true, 3), (true, 4), (true, 5), (true, 6), (true, 7), (true, 8), (true, 9), (true, 10), (true, 11), (true, 12), (true, 15), (false, 13), (true, 14)] (fun _ => True) trivial (by kernel_rfl) (by kernel_rfl) (by kernel_rfl) (fun _ _ d _ _ h => by cases d <;> exact h) ?_
  repeat (first | refine wpCan_move rfl ?_ | (refine wpCan_cons rfl ?_; intro K hK; go_simp; refine hK _ _ _ ?_; clear hK K))
  refine wpCan_cons rfl ?_
  intro K hK
  go_simp
  refine ⟨fun _ => True, trivial, hK _ _ _ ?_⟩
  clear hK K
  repeat (first | refine wpCan_move rfl ?_ | (refine wpCan_cons rfl ?_; intro K hK; go_simp; refine hK _ _ _ ?_; clear hK K))
  refine wpCan_nil ?_
  have hgp : (wa.alloc (.cells #[.pointer (some ⟨q, 10, none⟩), .pointer (some ⟨q, 4, none⟩), .pointer (some ⟨q, 5, none⟩), .pointer (some ⟨q, 6, none⟩), .pointer (some ⟨q, 7, none⟩)] 97)).drew.heap[wa.heap.size]? = _ := heap_alloc_new wa (.cells #[.pointer (some ⟨q, 10, none⟩), .pointer (some ⟨q, 4, none⟩), .pointer (some ⟨q, 5, none⟩), .pointer (some ⟨q, 6, none⟩), .pointer (some ⟨q, 7, none⟩)] 97)
  have hbd : Below wa.heap.size wa (wa.alloc (.cells #[.pointer (some ⟨q, 10, none⟩), .pointer (some ⟨q, 4, none⟩), .pointer (some ⟨q, 5, none⟩), .pointer (some ⟨q, 6, none⟩), .pointer (some ⟨q, 7, none⟩)] 97)).drew := below_drewN (ext_alloc wa _) 1
  have hzp : wa.heap.size = q + 2 := by rw [← hq]; exact hza
  rw [hzp] at hgp
  obtain ⟨wb, hwb⟩ : ∃ wb, (wa.alloc (.cells #[.pointer (some ⟨q, 10, none⟩), .pointer (some ⟨q, 4, none⟩), .pointer (some ⟨q, 5, none⟩), .pointer (some ⟨q, 6, none⟩), .pointer (some ⟨q, 7, none⟩)] 97)).drew = wb := ⟨_, rfl⟩
  rw [hwb] at hgp hbd ⊢
  rw [hq] at hg1 hza
  replace hg2 := hg2.out
  rw [hq] at hg2
  replace hg1 := Lib.hid (keep hg1 hbd).1
  replace hg2 := Lib.hid (keep hg2 hbd).1
  have hB0 : Below q w wb := by rw [← hq]; exact ext_trans hb0.out hbd
  have hzb : q + 3 ≤ wb.heap.size := (Array.getElem?_eq_some_iff.1 hgp).1
  replace hgp := Lib.hid hgp
  replace hB0 := Lib.hid hB0
  clear hwb hbd hwa hb0 hRa
  go_wp2_with fail
  go_loopw [25] (fun u wr => ∃ k : Nat, k ≤ 5 ∧ u = .int .i64 (k : Int) ∧ Hid (wr.heap[q]? = some (.cells ca.toArray 52)) ∧ Hid (wr.heap[q + 1]? = some (.cells darr0 52)) ∧ Hid (wr.heap[q + 2]? = some (.cells #[.pointer (some ⟨q, 10, none⟩), .pointer (some ⟨q, 4, none⟩), .pointer (some ⟨q, 5, none⟩), .pointer (some ⟨q, 6, none⟩), .pointer (some ⟨q, 7, none⟩)] 97)) ∧ Hid (Below q w wr)) (fun u _ => 5 - (intOf u).toNat)
  case atStart => exact ⟨0, by omega, by first | rfl | go_num, hg1, hg2, hgp, hB0⟩
  case round =>
    obtain ⟨k, hk, rfl, h1, h2, h3, hb⟩ := hrel
    obtain rfl | rfl | rfl | rfl | rfl | rfl : k = 0 ∨ k = 1 ∨ k = 2 ∨ k = 3 ∨ k = 4 ∨ k = 5 := by omega
    · have p0 := cell12 h3.out (j := 0) rfl
      have c0 := cell12 h1.out (j := 10) (by rw [hca.out]; rfl)
      go_wp2_with fail
      refine (hk1 _).mono ?_
      rintro e w2 ⟨rfl, hb2⟩
      have e1 := (keep h1.out hb2).1
      have e2 := (keep h2.out hb2).1
      have e3 := (keep h3.out hb2).1
      have hbz := Lib.hid (hb.out.trans (hb2.mono (by have := (Array.getElem?_eq_some_iff.1 h1.out).1; omega)))
      have c1 := cell12 e1 (j := 10) (by rw [hca.out]; rfl)
      have f1 := blk_free e1
      replace e1 := Lib.hid e1
      replace e2 := Lib.hid e2
      replace e3 := Lib.hid e3
      clear p0 c0 hb2
      go_wp2_with fail
      go_roundw
      case rel => exact ⟨1, by omega, by go_num, Lib.hid (by have := heap_setCell_same _ q 10 _ _ (.string (bs key)) e1.out; rw [this, hca.out]; rfl), Lib.hid ((Below.heap_setCell _ _ _ _ (by show q + 1 ≠ q; omega)).trans e2.out), Lib.hid ((Below.heap_setCell _ _ _ _ (by show q + 2 ≠ q; omega)).trans e3.out), Lib.hid (hbz.out.setCell (p := ⟨q, 10, none⟩) (Nat.le_refl _) _)⟩
      case measure => simp [intOf]
    · have p0 := cell12 h3.out (j := 1) rfl
      have c0 := cell12 h1.out (j := 4) (by rw [hca.out]; rfl)
      go_wp2_with fail
      refine (hk2 _).mono ?_
      rintro e w2 ⟨rfl, hb2⟩
      have e1 := (keep h1.out hb2).1
      have e2 := (keep h2.out hb2).1
      have e3 := (keep h3.out hb2).1
      have hbz := Lib.hid (hb.out.trans (hb2.mono (by have := (Array.getElem?_eq_some_iff.1 h1.out).1; omega)))
      have c1 := cell12 e1 (j := 4) (by rw [hca.out]; rfl)
      have f1 := blk_free e1
      replace e1 := Lib.hid e1
      replace e2 := Lib.hid e2
      replace e3 := Lib.hid e3
      clear p0 c0 hb2
      go_wp2_with fail
      go_roundw
      case rel => exact ⟨2, by omega, by go_num, Lib.hid (by have := heap_setCell_same _ q 4 _ _ (.string (bs lang)) e1.out; rw [this, hca.out]; rfl), Lib.hid ((Below.heap_setCell _ _ _ _ (by show q + 1 ≠ q; omega)).trans e2.out), Lib.hid ((Below.heap_setCell _ _ _ _ (by show q + 2 ≠ q; omega)).trans e3.out), Lib.hid (hbz.out.setCell (p := ⟨q, 4, none⟩) (Nat.le_refl _) _)⟩
      case measure => simp [intOf]
    · have p0 := cell12 h3.out (j := 2) rfl
      have c0 := cell12 h1.out (j := 5) (by rw [hca.out]; rfl)
      go_wp2_with fail
      refine (hk3 _).mono ?_
      rintro e w2 ⟨rfl, hb2⟩
      have e1 := (keep h1.out hb2).1
      have e2 := (keep h2.out hb2).1
      have e3 := (keep h3.out hb2).1
      have hbz := Lib.hid (hb.out.trans (hb2.mono (by have := (Array.getElem?_eq_some_iff.1 h1.out).1; omega)))
      have c1 := cell12 e1 (j := 5) (by rw [hca.out]; rfl)
      have f1 := blk_free e1
      replace e1 := Lib.hid e1
      replace e2 := Lib.hid e2
      replace e3 := Lib.hid e3
      clear p0 c0 hb2
      go_wp2_with fail
      go_roundw
      case rel => exact ⟨3, by omega, by go_num, Lib.hid (by have := heap_setCell_same _ q 5 _ _ (.string (bs name)) e1.out; rw [this, hca.out]; rfl), Lib.hid ((Below.heap_setCell _ _ _ _ (by show q + 1 ≠ q; omega)).trans e2.out), Lib.hid ((Below.heap_setCell _ _ _ _ (by show q + 2 ≠ q; omega)).trans e3.out), Lib.hid (hbz.out.setCell (p := ⟨q, 5, none⟩) (Nat.le_refl _) _)⟩
      case measure => simp [intOf]
    · have p0 := cell12 h3.out (j := 3) rfl
      have c0 := cell12 h1.out (j := 6) (by rw [hca.out]; rfl)
      go_wp2_with fail
      refine (hk4 _).mono ?_
      rintro e w2 ⟨rfl, hb2⟩
      have e1 := (keep h1.out hb2).1
      have e2 := (keep h2.out hb2).1
      have e3 := (keep h3.out hb2).1
      have hbz := Lib.hid (hb.out.trans (hb2.mono (by have := (Array.getElem?_eq_some_iff.1 h1.out).1; omega)))
      have c1 := cell12 e1 (j := 6) (by rw [hca.out]; rfl)
      have f1 := blk_free e1
      replace e1 := Lib.hid e1
      replace e2 := Lib.hid e2
      replace e3 := Lib.hid e3
      clear p0 c0 hb2
      go_wp2_with fail
      go_roundw
      case rel => exact ⟨4, by omega, by go_num, Lib.hid (by have := heap_setCell_same _ q 6 _ _ (.string (bs file)) e1.out; rw [this, hca.out]; rfl), Lib.hid ((Below.heap_setCell _ _ _ _ (by show q + 1 ≠ q; omega)).trans e2.out), Lib.hid ((Below.heap_setCell _ _ _ _ (by show q + 2 ≠ q; omega)).trans e3.out), Lib.hid (hbz.out.setCell (p := ⟨q, 6, none⟩) (Nat.le_refl _) _)⟩
      case measure => simp [intOf]
    · have p0 := cell12 h3.out (j := 4) rfl
      have c0 := cell12 h1.out (j := 7) (by rw [hca.out]; rfl)
      go_wp2_with fail
      refine (hk5 _).mono ?_
      rintro e w2 ⟨rfl, hb2⟩
      have e1 := (keep h1.out hb2).1
      have e2 := (keep h2.out hb2).1
      have e3 := (keep h3.out hb2).1
      have hbz := Lib.hid (hb.out.trans (hb2.mono (by have := (Array.getElem?_eq_some_iff.1 h1.out).1; omega)))
      have c1 := cell12 e1 (j := 7) (by rw [hca.out]; rfl)
      have f1 := blk_free e1
      replace e1 := Lib.hid e1
      replace e2 := Lib.hid e2
      replace e3 := Lib.hid e3
      clear p0 c0 hb2
      go_wp2_with fail
      go_roundw
      case rel => exact ⟨5, by omega, by go_num, Lib.hid (by have := heap_setCell_same _ q 7 _ _ (.string (bs style)) e1.out; rw [this, hca.out]; rfl), Lib.hid ((Below.heap_setCell _ _ _ _ (by show q + 1 ≠ q; omega)).trans e2.out), Lib.hid ((Below.heap_setCell _ _ _ _ (by show q + 2 ≠ q; omega)).trans e3.out), Lib.hid (hbz.out.setCell (p := ⟨q, 7, none⟩) (Nat.le_refl _) _)⟩
      case measure => simp [intOf]
    · have c0 := cell12 h1.out (j := 11) (by rw [hca.out]; rfl)
      have hqr : q + 2 ≤ wr.heap.size := (Array.getElem?_eq_some_iff.1 h2.out).1
      go_wp2_with fail
      obtain ⟨wo, rfl⟩ : ∃ wo : World, wo = wr := ⟨_, rfl⟩
      go_loopw [6, 39] (fun v u wz9 => ∃ k : Nat, k ≤ n ∧ u = .int .i64 (k : Int) ∧ Hid (wz9.ownsRow (q + 2) 9 1 v k (scells (lines.take k))) ∧ Hid (wz9.heap[q]? = some (.cells ca.toArray 52)) ∧ Hid (wz9.heap[q + 1]? = some (.cells darr0 52)) ∧ Hid (Below q w wz9)) (fun _ u _ => n - (intOf u).toNat)
      case atStart => exact ⟨0, by omega, rfl, Lib.hid (World.ownsRow_nil _ _ _ _), h1, h2, hb⟩
      case round =>
        obtain ⟨k, hk, rfl, hown, e1, e2, hbs⟩ := hrel
        obtain ⟨vA, vc, rfl, hvc⟩ := own_shape hown.out
        have hqs : q + 2 ≤ wr.heap.size := (Array.getElem?_eq_some_iff.1 e2.out).1
        rcases Nat.lt_or_ge k n with hlt | hge
        · have hRs : Row wr q 1 A lines.length (scells lines) := by
            have := hR.out
            rw [hq] at this
            rw [hn9.out]; exact this.below hbs.out
          obtain ⟨b, o, rfl, hbb, hc⟩ := txt_cell hRs (by rw [hn9.out]; exact hlt)
          have hsl := hline.out _ (List.getElem_mem (show k < lines.length by rw [hn9.out]; exact hlt))
          have htk : Hid (scells (lines.take k) ++ [.string (bs (lines[k]'(by rw [hn9.out]; exact hlt)))] = scells (lines.take (k + 1))) := Lib.hid (by
            rw [List.take_succ_eq_append_getElem (by rw [hn9.out]; exact hlt)]; unfold scells; rw [List.map_append]; rfl)
          obtain ⟨s, hs⟩ : ∃ s, lines[k]'(by rw [hn9.out]; exact hlt) = s := ⟨_, rfl⟩
          rw [hs] at hc hsl htk
          have hks := fun w => at_clone s w (by omega)
          clear hs hRs
          go_wp2_with fail
          refine (hks _).mono ?_
          rintro e w2 ⟨rfl, hb2⟩
          have hown2 := own_below hown.out hb2
          have g1 := Lib.hid (keep e1.out hb2).1
          have g2 := Lib.hid (keep e2.out hb2).1
          have hb3 := Lib.hid (hbs.out.trans (hb2.mono (by omega)))
          have hq2 : q + 2 ≤ w2.heap.size := (Array.getElem?_eq_some_iff.1 g2.out).1
          replace hown2 := Lib.hid hown2
          clear hb2 hks
          go_wp2_with (at_builtin; refine wpList_app_new rfl (.tmp 43) (.tmp 46) rfl textEI rfl hown2.out rfl rfl rfl (by intro u hu; simp only [List.mem_singleton] at hu; subst hu; rfl) (by omega) (by omega) (by omega) ?_; intro v9 w9 hown9 hg9 hb9)
          go_roundw
          case rel =>
            refine ⟨v9, _, _, ⟨k + 1, by omega, by go_num, Lib.hid (by rw [← htk.out]; exact hown9), Lib.hid (grown_blk hg9.out g1.out (own_ne_lt hown2.out (by omega))), Lib.hid (grown_blk hg9.out g2.out (own_ne_lt hown2.out (by omega))), Lib.hid (hb3.out.trans (hb9.mono (by omega)))⟩, rfl, rfl, rfl⟩
          case measure => simp [intOf]; omega
        · have hkn : ¬ (k : Int) < (n : Int) := by omega
          obtain rfl : k = n := by omega
          have c1 := cell12 e1.out (j := 11) (by rw [hca.out]; rfl)
          have f1 := blk_free e1.out
          have hown' := hown.out
          rw [List.take_of_length_le (by rw [hn9.out]; exact Nat.le_refl _)] at hown'
          replace hown' := Lib.hid hown'
          go_upto_region 13 with fail
          have c1' := cell12 e1.out (j := 11) (by rw [hca.out]; rfl)
          obtain ⟨wz, hwz⟩ : ∃ wz, wr.setCell ⟨q, 11, none⟩ (.slice vA k vc) = wz := ⟨_, rfl⟩
          have z1 : wz.heap[q]? = some (.cells #[.int .i64 (doc : Int), .int .i64 (line : Int), .int .i64 (frm : Int), .int .i64 (upto : Int), .string (bs lang), .string (bs name), .string (bs file), .string (bs style), .bool ap, .bool nl, .string (bs key), .slice vA k vc] 52) := by
            rw [← hwz]
            have := heap_setCell_same _ q 11 _ _ (.slice vA k vc) e1.out
            rw [this, hca.out]; rfl
          have z2 : wz.heap[q + 1]? = some (.cells darr0 52) := by
            rw [← hwz]; exact (Below.heap_setCell _ _ _ _ (by show q + 1 ≠ q; omega)).trans e2.out
          have zo : wz.ownsRow (q + 2) 9 1 (.slice vA k vc) k (scells lines) := by
            rw [← hwz]; exact World.ownsRow.kept hown'.out (grown_set _ ⟨q, 11, none⟩ _) (.inr (own_ne_lt hown'.out (by show q < q + 2; omega)))
          have zb : Below q w wz := by rw [← hwz]; exact hbs.out.setCell (p := ⟨q, 11, none⟩) (Nat.le_refl _) _
          have d0 := cell12 z1 (j := 0) rfl
          have d1 := cell12 z1 (j := 1) rfl
          have d2 := cell12 z1 (j := 2) rfl
          have d3 := cell12 z1 (j := 3) rfl
          have d4 := cell12 z1 (j := 4) rfl
          have d5 := cell12 z1 (j := 5) rfl
          have d6 := cell12 z1 (j := 6) rfl
          have d7 := cell12 z1 (j := 7) rfl
          have d8 := cell12 z1 (j := 8) rfl
          have d9 := cell12 z1 (j := 9) rfl
          have d10 := cell12 z1 (j := 10) rfl
          have d11 := cell12 z1 (j := 11) rfl
          have y0 := cell12 z2 (j := 0) rfl
          have y1 := cell12 z2 (j := 1) rfl
          have y2 := cell12 z2 (j := 2) rfl
          have y3 := cell12 z2 (j := 3) rfl
          have y4 := cell12 z2 (j := 4) rfl
          have y5 := cell12 z2 (j := 5) rfl
          have y6 := cell12 z2 (j := 6) rfl
          have y7 := cell12 z2 (j := 7) rfl
          have y8 := cell12 z2 (j := 8) rfl
          have y9 := cell12 z2 (j := 9) rfl
          have y10 := cell12 z2 (j := 10) rfl
          have y11 := cell12 z2 (j := 11) rfl
          have yf := blk_free z2
          have hfo := Lib.hid (own_setAll zo (own_ne_lt zo (show q + 1 < q + 2 by omega)) 0 [.int .i64 (doc : Int), .int .i64 (line : Int), .int .i64 (frm : Int), .int .i64 (upto : Int), .string (bs lang), .string (bs name), .string (bs file), .string (bs style), .bool ap, .bool nl, .string (bs key), .slice vA k vc])
          have hfb := Lib.hid (below_setAll (show q ≤ q + 1 by omega) 0 [.int .i64 (doc : Int), .int .i64 (line : Int), .int .i64 (frm : Int), .int .i64 (upto : Int), .string (bs lang), .string (bs name), .string (bs file), .string (bs style), .bool ap, .bool nl, .string (bs key), .slice vA k vc] zb)
          replace z1 := Lib.hid z1
          replace z2 := Lib.hid z2
          replace zo := Lib.hid zo
          replace zb := Lib.hid zb
          go_wp2_with fail
          refine bodyPost_ret (v := .agg #[.int .i64 (doc : Int), .int .i64 (line : Int), .int .i64 (frm : Int), .int .i64 (upto : Int), .string (bs lang), .string (bs name), .string (bs file), .string (bs style), .bool ap, .bool nl, .string (bs key), .slice vA k vc]) (by rw [results_cell1 rfl]; go_simp) rfl ?_
          have hfo' := hfo.out
          have hfb' := hfb.out
          simp only [setAll] at hfo' hfb'
          rw [hn9.out]
          exact ⟨_, rfl, own_base hfo' (by omega), hfb'⟩
end Go.Proofs.YtmmgfoepfapnkaaGreatDoor

namespace Go.Proofs.YtmmgfoepfapnkaaGreatDoor
open Go.RowKit
attribute [local go_sem] canOp readsAs readUpon

/-- append of large elements that were laid in a new block -/
theorem wpList_app_big {P : Program} {w0 : World} {ops : Array Oper} {rest : List Oper} {o : Oper} {a : Act} {Q : Exit → Act → World → Prop} (hgd : o.guard = none) (s x : Operand) {T : TypeId}
    (ho : o.op = .call { callee := .builtin .append, args := #[s, x], argTypes := #[T, T] })
    {E : TypeId} {size bytes : Nat} (hE : EI P T E size bytes) {base n : Nat} {v : Value} {xs : List Value} (hs : a.eval s = v) (hown : w0.ownsRow base E size v n xs)
    {g k c : Nat} {cs : Array Value} (hx : a.eval x = .slice (some ⟨g, 0, none⟩) k c) (hg : g = w0.heap.size) (hcs : cs.size = k * size) (h1 : ∀ u ∈ cs.toList, u.oneCell' = true)
    (h63 : n + k ≤ 10000000000) (hbytes : bytes ≤ 1000) (hbase : base ≤ w0.heap.size)
    (h : ∀ v' w', w'.ownsRow base E size v' (n + k) (xs ++ cs.toList) → Hid (w0.grownBy w' v.ownBlock) → Below base w0 w' → Hid (At w0.heap.size v v') → wpList P ops Q rest (a.put o.dst v') w') :
    wpList P ops Q (o :: rest) a (w0.alloc (.cells cs E)) := by
  obtain ⟨i, z, hi, hz, hs1, hs2, hs3⟩ := hE.info
  refine wpList_plain hgd fun K hK => ?_
  obtain ⟨v', w', hrun, h2, h3, _, h5⟩ := run_append_own_at (P := P) (w0.alloc (.cells cs E)) base T o.type E i z size bytes hE.ht hi hz hs1 hs2 hs3 hE.pos v n xs (hown.alloc _) ⟨g, 0, none⟩ k c cs.toList (by simpa using hcs) (cells_new w0 cs E hg) h1
    (by unfold maxLen; omega) (by have := Nat.mul_le_mul h63 hbytes; omega) (by simp; omega)
  unfold Oper.wp execOp
  simp only [ho, resolve, invoke, builtin, Sem.run_bind, Sem.run_pure, Result.andThen_ok, List.map_toArray, List.map_cons, List.map_nil, hs, hx, hrun]
  refine hK _ _ (h v' w' h2 (Lib.hid (grown_new h3)) (below_grown (Below.refl _ _) (hown.alloc _) ((Below.refl _ _).alloc hbase _) h3 (by simp; omega)) (Lib.hid fun q hq => ?_))
  rcases h5 with e | e
  · rw [e] at hq; exact .inl hq
  · rw [e] at hq; simp at hq; exact .inr (by omega)
theorem defEI : EI Tryz.prog 35 52 12 144 := EI.mk' (z := .agg darr0) Tryz.underlying35 (by kernel_rfl) rfl (by omega)

/-- a row of Defs, all of it in blocks from B on -/
def OwnD (w : World) (B : Nat) (v : Value) (ds : List Ck.Def) : Prop := ∃ css, w.ownsRow B 52 12 v ds.length css.flatten ∧ Els (DC w (fun b => B ≤ b ∧ b < w.heap.size ∧ v.ownBlock ≠ some b)) ds css
theorem OwnD.nil (w : World) (B : Nat) : OwnD w B (.slice none 0 0) [] := ⟨[], World.ownsRow_nil _ _ _ _, rfl⟩
theorem OwnD.ext {w w' : World} {B : Nat} {v : Value} {ds : List Ck.Def} (h : OwnD w B v ds) (hb : Below w.heap.size w w') : OwnD w' B v ds := by
  obtain ⟨css, h1, h2⟩ := h
  exact ⟨css, own_below h1 hb, h2.mono fun _ _ hd => hd.frame (fun b hq => hb.block b hq.2.1) (fun b hq => ⟨hq.1, Nat.lt_of_lt_of_le hq.2.1 hb.size, hq.2.2⟩)⟩
theorem OwnD.grown {w w' : World} {B g : Nat} {v : Value} {ds : List Ck.Def} (h : OwnD w B v ds) (hg : w.grownBy w' (some g)) (hgB : g < B) : OwnD w' B v ds := by
  obtain ⟨css, h1, h2⟩ := h
  exact ⟨css, World.ownsRow.kept h1 hg (.inr (own_ne_lt h1 hgB)), h2.mono fun _ _ hd => hd.frame (fun b hq => hg.block b hq.2.1 (fun e => by cases e; omega)) (fun b hq => ⟨hq.1, Nat.lt_of_lt_of_le hq.2.1 hg.size, hq.2.2⟩)⟩
theorem OwnD.base {w : World} {B B' : Nat} {v : Value} {ds : List Ck.Def} (h : OwnD w B v ds) (hB : B' ≤ B) : OwnD w B' v ds := by
  obtain ⟨css, h1, h2⟩ := h
  exact ⟨css, own_base h1 hB, h2.mono fun _ _ hd => hd.frame (fun _ _ => rfl) (fun b hq => ⟨by omega, hq.2⟩)⟩
theorem OwnD.row {w : World} {B c n : Nat} {A : Option Addr} {ds : List Ck.Def} (h : OwnD w B (.slice A n c) ds) : ∃ css, DRow w w.heap.size A ds.length ds css ∧ n = ds.length := by
  obtain ⟨css, h1, h2⟩ := h
  have hn : n = ds.length := by
    rcases h1.2 with ⟨e, e2⟩ | ⟨g, cap, cur, e, _⟩
    · injection e with e3 e4; rw [e2]; exact e4
    · injection e
  subst hn
  exact ⟨css, ⟨rfl, Row.own h1, h2.mono fun _ _ hd => hd.frame (fun _ _ => rfl) (fun b hq => hq.2.1)⟩, rfl⟩
/-- a Def more -/
theorem OwnD.more {w w' : World} {B c : Nat} {css : List (List Value)} {v v' : Value} {ds : List Ck.Def} {d : Ck.Def} {A : Option Addr} {xs : List Value} (h : Els (DC w (fun b => B ≤ b ∧ b < w.heap.size ∧ v.ownBlock ≠ some b)) ds css) (hxs : xs = css.flatten)
    (hown : w'.ownsRow B 52 12 v' (ds.length + 1) (xs ++ dcells d (.slice A d.lines.length c))) (hg : w.grownBy w' v.ownBlock) (hat : At w.heap.size v v')
    (hl : RowE w (fun b => B ≤ b ∧ b < w.heap.size ∧ v.ownBlock ≠ some b) 1 A d.lines.length (scells d.lines)) (hlc : d.lines.length ≤ c) : OwnD w' B v' (ds ++ [d]) := by
  subst hxs
  have hf : ∀ b, (B ≤ b ∧ b < w.heap.size ∧ v.ownBlock ≠ some b) → w'.heap[b]? = w.heap[b]? := fun b hq => hg.block b hq.2.1 (fun e => hq.2.2 e.symm)
  have hq : ∀ b, (B ≤ b ∧ b < w.heap.size ∧ v.ownBlock ≠ some b) → (B ≤ b ∧ b < w'.heap.size ∧ v'.ownBlock ≠ some b) := fun b hq => ⟨hq.1, Nat.lt_of_lt_of_le hq.2.1 hg.size, fun e => by
    rcases hat b e with e | e
    · exact hq.2.2 e
    · omega⟩
  refine ⟨css ++ [dcells d (.slice A d.lines.length c)], ?_, Els.snoc (h.mono fun _ _ hd => hd.frame hf hq) ⟨A, c, rfl, hlc, hl.frame hf hq⟩⟩
  rw [List.flatten_append, List.length_append]
  simpa using hown
theorem Ck.of_at {ds : List Ck.Def} {k : Nat} (hk : k < ds.length) (key : List UInt8) : Ck.of (ds.take (k + 1)) key = Ck.of (ds.take k) key ++ if ds[k].key = key then [ds[k]] else [] := by
  unfold Ck.of
  rw [List.take_succ_eq_append_getElem hk, List.filter_append]
  congr 1
  by_cases h : ds[k].key = key
  · rw [if_pos h, List.filter_cons_of_pos (by simpa using h), List.filter_nil]
  · rw [if_neg h, List.filter_cons_of_neg (by simpa using h), List.filter_nil]
theorem Ck.of_len (ds : List Ck.Def) (key : List UInt8) : (Ck.of ds key).length ≤ ds.length := List.length_filter_le _ _
theorem darr_one (d : Ck.Def) (A : Option Addr) (n c : Nat) : ∀ u ∈ (darr d (.slice A n c)).toList, u.oneCell' = true := by
  intro u hu
  simp only [List.mem_cons, List.not_mem_nil, or_false] at hu
  rcases hu with rfl | rfl | rfl | rfl | rfl | rfl | rfl | rfl | rfl | rfl | rfl | rfl <;> rfl

set_option maxHeartbeats 4000000 in
set_option maxRecDepth 100000 in
theorem of_any (ds : List Ck.Def) (css : List (List Value)) (A : Option Addr) (c : Nat) (key : List UInt8) (w : World) (h : DRow w w.heap.size A ds.length ds css) (hd : ∀ d ∈ ds, DOk d) (hn : ds.length ≤ 1000000000) :
    Calls Tryz.prog 21 #[.slice A ds.length c, .string (bs key)] w fun e w' => ∃ v, e = .returned v ∧ OwnD w' w.heap.size v (Ck.of ds key) ∧ Below w.heap.size w w' := by
  have hS := Lib.hid h
  replace hd := Lib.hid hd
  obtain ⟨n, hn9⟩ : ∃ n, ds.length = n := ⟨_, rfl⟩
  rw [hn9] at hn ⊢
  replace hn9 := Lib.hid hn9
  clear h
  go_enter Tryz.func21, Tryz.ntmps21
  go_wp2_with fail
  go_loopw [5, 10] (fun v u wr => ∃ k : Nat, k ≤ n ∧ u = .int .i64 (k : Int) ∧ Hid (OwnD wr w.heap.size v (Ck.of (ds.take k) key)) ∧ Hid (Below w.heap.size w wr)) (fun _ u _ => n - (intOf u).toNat)
  case atStart => exact ⟨0, by omega, rfl, Lib.hid (OwnD.nil _ _), Lib.hid (Below.refl _ _)⟩
  case round =>
    obtain ⟨k, hk, rfl, hown, hb⟩ := hrel
    have hsz := hb.out.size
    rcases Nat.lt_or_ge k n with hlt | hge
    · have hlt' : k < ds.length := by rw [hn9.out]; exact hlt
      obtain ⟨b, o, rfl, hbb, hc⟩ := (hS.out.ext hb.out).def_at (by omega)
      obtain ⟨LA, lc, h1, h2, hcc⟩ := hc k hlt'
      have hdk := hd.out _ (List.getElem_mem hlt')
      have hoa := Ck.of_at hlt' key
      obtain ⟨d, hde⟩ : ∃ d, ds[k] = d := ⟨_, rfl⟩
      rw [hde] at h1 h2 hcc hdk hoa
      have c0 := hcc 0 _ rfl
      rw [Nat.add_zero] at c0
      have c1 := hcc 1 _ rfl
      have c2 := hcc 2 _ rfl
      have c3 := hcc 3 _ rfl
      have c4 := hcc 4 _ rfl
      have c5 := hcc 5 _ rfl
      have c6 := hcc 6 _ rfl
      have c7 := hcc 7 _ rfl
      have c8 := hcc 8 _ rfl
      have c9 := hcc 9 _ rfl
      have c10 := hcc 10 _ rfl
      have c11 := hcc 11 _ rfl
      have hx1 := ext_alloc wr (.cells (darr d (.slice LA d.lines.length lc)) 52)
      have hcp := fun w' h => copied_any d LA lc w' h h1 hdk
      have hol := Ck.of_len (ds.take k) key
      rw [List.length_take] at hol
      clear hc hcc hde
      replace h2 := Lib.hid h2
      replace hdk := Lib.hid hdk
      by_cases hkey : d.key = key
      · rw [if_pos hkey] at hoa
        have ht := bs_eq hkey
        replace hoa := Lib.hid hoa
        replace hkey := Lib.hid hkey
        obtain ⟨ln, hln⟩ : ∃ ln, d.lines.length = ln := ⟨_, rfl⟩
        rw [hln] at c11 hx1 h1
        simp only [hln] at hcp
        have hR2 := h2.out
        rw [hln] at hR2
        replace hR2 := Lib.hid (hR2.ext hx1)
        replace hln := Lib.hid hln
        obtain ⟨css1, ho1, he1⟩ := hown.out
        obtain ⟨vA, vc, rfl, hvc⟩ := own_shape ho1
        have hlb := ho1.lt
        obtain ⟨m, hm⟩ : ∃ m, (Ck.of (ds.take k) key).length = m := ⟨_, rfl⟩
        rw [hm] at ho1 he1 hvc hol hlb ⊢
        replace hm := Lib.hid hm
        replace ho1 := Lib.hid ho1
        replace he1 := Lib.hid he1
        replace hlb := Lib.hid hlb
        have hm9 : m ≤ 1000000000 := by omega
        clear h2 hown hol
        go_wp2_with fail
        refine (hcp _ hR2.out).mono ?_
        rintro e w2 ⟨v2, rfl, hown2, hb2⟩
        obtain ⟨A2, c2', rfl, hl2⟩ := own_shape hown2
        have hq2 := own_q hown2
        have hbz := ext_trans hx1 hb2
        have hsz2 := hbz.size
        have ho2 := own_below ho1.out hbz
        have he2 : Els (DC w2 (fun b => w.heap.size ≤ b ∧ b < w2.heap.size ∧ (Value.slice vA m vc).ownBlock ≠ some b)) (Ck.of (ds.take k) key) css1 := he1.out.mono fun _ _ hd => hd.frame (fun b hq => hbz.block b hq.2.1) (fun b hq => ⟨hq.1, Nat.lt_of_lt_of_le hq.2.1 hsz2, hq.2.2⟩)
        have hz1 : (wr.alloc (.cells (darr d (.slice LA ln lc)) 52)).heap.size = wr.heap.size + 1 := by simp
        have hq3 : RowE w2 (fun b => w.heap.size ≤ b ∧ b < w2.heap.size ∧ (Value.slice vA m vc).ownBlock ≠ some b) 1 A2 ln (scells d.lines) := hq2.frame (fun _ _ => rfl) (fun b hq => ⟨by omega, hq.2, fun e => by have := hlb.out b e; omega⟩)
        have hb3 := Lib.hid (hb.out.trans (hbz.mono hsz))
        replace hq3 := Lib.hid hq3
        replace he2 := Lib.hid he2
        replace ho2 := Lib.hid ho2
        clear hq2 hown2 hb2 hbz hx1 hR2 hcp c0 c1 c2 c3 c4 c5 c6 c7 c8 c9 c10 c11 hz1 ht
        go_wp2_with (at_builtin; refine wpList_app_big rfl (.tmp 18) (.tmp 21) rfl defEI rfl ho2.out rfl rfl rfl (darr_one d A2 ln c2') (by omega) (by omega) (by omega) ?_; intro v9 w9 hown9 hg9 hb9 hat9)
        have hfin : Hid (OwnD w9 w.heap.size v9 (Ck.of (ds.take (k + 1)) key)) := Lib.hid (by
          rw [hoa.out]
          have hoo := hown9
          rw [← hm.out, ← hln.out] at hoo
          exact OwnD.more he2.out rfl hoo hg9.out hat9.out (by rw [hln.out]; exact hq3.out) (by rw [hln.out]; exact hl2))
        go_roundw
        case rel => exact ⟨k + 1, by omega, by go_num, hfin, Lib.hid (hb3.out.trans hb9)⟩
        case measure => simp [intOf]; omega
      · rw [if_neg hkey, List.append_nil] at hoa
        have ht := bs_ne hkey
        have hown2 := Lib.hid (by rw [hoa]; exact hown.out.ext hx1 : OwnD (wr.alloc (.cells (darr d (.slice LA d.lines.length lc)) 52)) w.heap.size _ (Ck.of (ds.take (k + 1)) key))
        have hb2 := Lib.hid (ext_trans hb.out hx1)
        replace hoa := Lib.hid hoa
        replace hkey := Lib.hid hkey
        clear hcp hx1
        go_wp2_with fail
        go_roundw
        case rel => exact ⟨k + 1, by omega, by go_num, hown2, hb2⟩
        case measure => simp [intOf]; omega
    · obtain rfl : k = n := by omega
      have hkn : ¬ (k : Int) < (k : Int) := by omega
      have hown2 := hown.out
      rw [List.take_of_length_le (by rw [hn9.out]; exact Nat.le_refl _)] at hown2
      go_wp2_with fail
      go_returns
      exact ⟨_, rfl, hown2, hb.out⟩
end Go.Proofs.YtmmgfoepfapnkaaGreatDoor

namespace Go.Proofs.YtmmgfoepfapnkaaGreatDoor
open Go.RowKit

/-- a pair is the same from wherever its place is counted -/
theorem At.pair_shift (r : List UInt8) (a : Nat) : (At.pair r a).1 = (At.pair r 0).1 ∧ (At.pair r a).2.2 = (At.pair r 0).2.2 ∧ ((At.pair r 0).2.2 = true → (At.pair r a).2.1 = a + (At.pair r 0).2.1) := by
  by_cases h0 : At.tw At.letter r = []
  · rw [At.pair_empty h0, At.pair_empty h0]; exact ⟨rfl, rfl, fun h => by cases h⟩
  · rcases hr : r.drop (At.tw At.letter r).length with _ | ⟨b, q⟩
    · rw [At.pair_end h0 hr, At.pair_end h0 hr]; exact ⟨rfl, rfl, fun _ => by simp only; omega⟩
    · cases hb : Cl.isGap b with
      | true => rw [At.pair_gap h0 hr hb, At.pair_gap h0 hr hb]; exact ⟨rfl, rfl, fun _ => by simp only; omega⟩
      | false =>
        by_cases h61 : b = 61
        · subst h61
          by_cases hq : ∃ q', q = 34 :: q'
          · obtain ⟨q', rfl⟩ := hq
            cases hQ : At.qd q' with
            | none => rw [At.pair_open h0 hr hQ, At.pair_open h0 hr hQ]; exact ⟨rfl, rfl, fun h => by cases h⟩
            | some x =>
              obtain ⟨t, n⟩ := x
              rw [At.pair_quote h0 hr hQ, At.pair_quote h0 hr hQ]; exact ⟨rfl, rfl, fun _ => by simp only; omega⟩
          · rw [At.pair_word h0 hr (fun x hx => hq ⟨x, hx⟩), At.pair_word h0 hr (fun x hx => hq ⟨x, hx⟩)]; exact ⟨rfl, rfl, fun _ => by simp only; omega⟩
        · rw [At.pair_bad h0 hr hb h61, At.pair_bad h0 hr hb h61]; exact ⟨rfl, rfl, fun h => by cases h⟩

/-- the rest behind the language, where the pairs begin -/
theorem lang_start (l : List UInt8) : ∃ (f : Nat) (first : Bool) (i : Nat), l.length + 1 ≤ f + i ∧ i ≤ l.length ∧
    ((At.langOf (l.drop (Cl.gaps l))).2.drop (Cl.gaps (At.langOf (l.drop (Cl.gaps l))).2)) = l.drop (i + Cl.gaps (l.drop i)) ∧
    At.prs l f first (At.langOf (l.drop (Cl.gaps l))).1 [] i = At.pairs l ∧ (l.drop (i + Cl.gaps (l.drop i)) ≠ [] → At.isLang first (At.tw At.word (l.drop (i + Cl.gaps (l.drop i)))) = false) := by
  have hj : 0 + Cl.gaps (l.drop 0) = Cl.gaps l := by rw [List.drop_zero, Nat.zero_add]
  have hgl := Cl.gaps_le l
  by_cases hr : l.drop (Cl.gaps l) = []
  · refine ⟨l.length + 1, false, 0, by omega, by omega, ?_, ?_, ?_⟩
    · rw [hj, hr]; rfl
    · rw [hr]
      unfold At.pairs
      rw [At.prs_done hj hr, At.prs_done hj hr]; rfl
    · rw [hj]; exact fun h => absurd hr h
  · cases hl : At.isLang true (At.tw At.word (l.drop (Cl.gaps l))) with
    | true =>
      have hlo : At.langOf (l.drop (Cl.gaps l)) = (At.tw At.word (l.drop (Cl.gaps l)), (l.drop (Cl.gaps l)).drop (At.tw At.word (l.drop (Cl.gaps l))).length) := if_pos hl
      have hW := At.tw_len At.word (l.drop (Cl.gaps l))
      rw [List.length_drop] at hW
      rw [hlo]
      refine ⟨l.length, false, Cl.gaps l + (At.tw At.word (l.drop (Cl.gaps l))).length, ?_, by omega, ?_, ?_, fun _ => rfl⟩
      · have : 0 < (At.tw At.word (l.drop (Cl.gaps l))).length := by
          rcases At.tw_rest (fun b => Cl.isGap b) l with h | ⟨b, r, h, hb⟩
          all_goals
            rcases hq : l.drop (Cl.gaps l) with _ | ⟨c, q⟩
            · exact absurd hq hr
            · have hc : Cl.isGap c = false := by
                have h0 : Cl.gaps (l.drop (Cl.gaps l)) = 0 := by rw [Cl.gaps_drop l _ (Nat.le_refl _)]; omega
                rw [hq] at h0
                cases hg : Cl.isGap c with
                | false => rfl
                | true => rw [Cl.gaps_go _ hg] at h0; omega
              rw [At.tw_yes _ (by unfold At.word; rw [hc]; rfl)]; simp
        omega
      · simp only [List.drop_drop]
      · unfold At.pairs
        rw [At.prs_lang hj hr hl]
    | false =>
      have hlo : At.langOf (l.drop (Cl.gaps l)) = ([], l.drop (Cl.gaps l)) := if_neg (by rw [hl]; simp)
      rw [hlo]
      refine ⟨l.length + 1, true, 0, by omega, by omega, ?_, rfl, ?_⟩
      · simp only; rw [hj, Cl.gaps_drop l _ (Nat.le_refl _), Nat.sub_self, List.drop_zero]
      · rw [hj]; exact fun _ => hl

/-- the keys that were seen, as a set -/
def keyLit (p : At.Pr) : Lit := .string p.key
def keySet (out : List At.Pr) : DataW Unit := Maps.setOf (.agg []) (out.map keyLit)
theorem keySet_more (out : List At.Pr) (p : At.Pr) : keySet (out ++ [p]) = (keySet out).put (.string p.key) (.agg []) := by
  unfold keySet
  rw [List.map_append, List.map_cons, List.map_nil, Maps.setOf_snoc]; rfl
theorem keySet_has (out : List At.Pr) (k : List UInt8) : Maps.has (keySet out) (.string k) = At.twice out k := by
  unfold keySet
  rw [Maps.has_setOf _ _ _ (by intro x hx; obtain ⟨p, _, rfl⟩ := List.mem_map.1 hx; trivial)]
  unfold At.twice
  rw [List.any_map]
  congr 1
  funext p
  simp only [Function.comp, keyLit, Lit.sameKey]
  rw [Bool.eq_iff_iff]; simp

/-- pairs as cells -/
def qcells (l : List At.Pr) : List Value := l.flatMap fun p => [.string (bs p.key), av p]
theorem strLaw : Maps.Keyed Tryz.prog 9 := Maps.string_keyed Tryz.underlying9
theorem zeroUnit (w : World) : (zeroValue 94).run Tryz.prog w = .ok (.agg #[]) w := by kernel_rfl
theorem qpairEI : EI Tryz.prog 140 144 2 32 := EI.mk' (z := .agg #[.string .empty, .nilIface]) Tryz.underlying140 (by kernel_rfl) rfl (by omega)
theorem map_ext {w w1 : World} {b n : Nat} {D : DataW Unit} (h : w.ownsMap Tryz.prog 9 unitElem b n D) (hb : Below w.heap.size w w1) : w1.ownsMap Tryz.prog 9 unitElem b n D := by
  have hlt := h.lt
  obtain ⟨es, clock, h1, r⟩ := h
  exact ⟨es, clock, (hb.block b hlt).trans h1, r⟩
end Go.Proofs.YtmmgfoepfapnkaaGreatDoor

namespace Go.Proofs.YtmmgfoepfapnkaaGreatDoor
open Go.RowKit
attribute [local go_sem] canOp readsAs readUpon

theorem bcells_append (a b : List UInt8) : bcells (a ++ b) = bcells a ++ bcells b := by simp [bcells]
theorem at_ext_allocs (w : World) (o : Obj) : Below w.heap.size w (w.alloc o) := (Below.refl _ w).alloc (Nat.le_refl _) _
theorem fresh_bld (w : World) : IsB w.heap.size w.heap.size (bcells []) (w.alloc (.cells #[.pointer none, .slice none 0 0] 196)) :=
  Lib.IsBuilderF.of (Lib.fresh_isBuilder 196 5 w)
theorem bld_string (B b : Nat) (l : List UInt8) (w : World) (h : IsB B b (bcells l) w) (hBw : B ≤ w.heap.size) :
    Calls Tryz.prog 122 #[.pointer (some ⟨b, 0, none⟩)] w fun e w' => e = .returned (.string (bs l)) ∧ Below B w w' :=
  (Tryz.Builder_String_any_k B b l w h hBw).mono fun _ _ ⟨he, _, hb, _⟩ => ⟨he, hb⟩
theorem bcells_len (l : List UInt8) : (bcells l).length = l.length := by simp [bcells]
/-- one byte more -/
theorem bld_more {B b : Nat} {t : List UInt8} {c : UInt8} {w : World} (h : IsB B b (bcells t ++ [.int .u8 (c.toNat : Int)]) w) : IsB B b (bcells (t ++ [c])) w := by
  rw [bcells_append]; exact h

/-- what is read from place k on, behind the text t -/
def uAt (l : List UInt8) (k : Nat) (t : List UInt8) : Option (List UInt8 × Nat) := (At.qd (l.drop k)).map fun x => (t ++ x.1, k + x.2)
theorem uAt_start (l : List UInt8) : uAt l 0 [] = At.qd l := by
  unfold uAt
  rw [List.drop_zero]
  cases At.qd l with
  | none => rfl
  | some x => simp
theorem uAt_nil {l : List UInt8} {k : Nat} {t : List UInt8} (h : ¬ k < l.length) : uAt l k t = none := by
  unfold uAt; rw [List.drop_eq_nil_of_le (by omega), At.qd_nil]; rfl
theorem uAt_end {l : List UInt8} {k : Nat} {t : List UInt8} (hk : k < l.length) (h : l[k] = 34) : uAt l k t = some (t, k + 1) := by
  unfold uAt; rw [List.drop_eq_getElem_cons hk, h, At.qd_end]; simp
theorem uAt_one {l : List UInt8} {k : Nat} {t : List UInt8} (hk : k < l.length) (h : l[k] ≠ 34) (h' : l[k] ≠ 92) : uAt l k t = uAt l (k + 1) (t ++ [l[k]]) := by
  unfold uAt; rw [List.drop_eq_getElem_cons hk, At.qd_one _ h h']
  cases At.qd (l.drop (k + 1)) with
  | none => rfl
  | some x => simp; omega
theorem uAt_last {l : List UInt8} {k : Nat} {t : List UInt8} (hk : k < l.length) (h : l[k] = 92) (hk' : ¬ k + 1 < l.length) : uAt l k t = none := by
  unfold uAt; rw [List.drop_eq_getElem_cons hk, h, List.drop_eq_nil_of_le (by omega), At.qd_last]; rfl
theorem uAt_esc {l : List UInt8} {k : Nat} {t : List UInt8} (hk : k + 1 < l.length) (h : l[k] = 92) (h' : l[k + 1] = 34 ∨ l[k + 1] = 92) : uAt l k t = uAt l (k + 2) (t ++ [l[k + 1]]) := by
  unfold uAt; rw [List.drop_eq_getElem_cons (show k < l.length by omega), h, List.drop_eq_getElem_cons hk, At.qd_esc _ h']
  cases At.qd (l.drop (k + 2)) with
  | none => simp_all
  | some x => simp_all; omega
theorem uAt_bad {l : List UInt8} {k : Nat} {t : List UInt8} (hk : k + 1 < l.length) (h : l[k] = 92) (h' : ¬ (l[k + 1] = 34 ∨ l[k + 1] = 92)) : uAt l k t = none := by
  unfold uAt; rw [List.drop_eq_getElem_cons (show k < l.length by omega), h, List.drop_eq_getElem_cons hk, At.qd_bad _ h']; rfl

/-- the text, and what is behind the last quote -/
def uqv (l : List UInt8) : Option (List UInt8 × Nat) → Value
  | none => .tuple #[.string ⟨#[]⟩, .string ⟨#[]⟩, .bool false]
  | some x => .tuple #[.string (bs x.1), .string (bs (l.drop x.2)), .bool true]

set_option maxHeartbeats 4000000 in
set_option maxRecDepth 100000 in
theorem unquote_any (l : List UInt8) (w : World) (hl : l.length ≤ 1000000000) :
    Calls Tryz.prog 167 #[.string (bs l)] w fun e w' => e = .returned (uqv l (At.qd l)) ∧ Below w.heap.size w w' := by
  have hsz := bs_size l
  obtain ⟨V, hV⟩ : ∃ V, At.qd l = V := ⟨_, rfl⟩
  rw [hV]
  have hst : Hid (V = uAt l 0 []) := Lib.hid (by rw [uAt_start, hV])
  clear hV
  go_enter Tryz.func167, Tryz.ntmps167
  go_wp2_with fail
  go_loopw [6] (fun u wr => ∃ (t : List UInt8) (k : Nat), k ≤ l.length ∧ t.length ≤ k ∧ u = .int .i64 (k : Int) ∧ IsB w.heap.size w.heap.size (bcells t) wr ∧ Hid (V = uAt l k t) ∧ Below w.heap.size w wr) (fun u _ => l.length - (intOf u).toNat)
  case atStart => exact ⟨[], 0, by omega, by simp, rfl, fresh_bld w, hst, at_ext_allocs _ _⟩
  case round =>
    obtain ⟨t, k, hk, htk, rfl, hI, hf, hb⟩ := hrel
    have hz := hb.size
    have htl := bcells_len t
    by_cases hlt : k < l.length
    · have hx := run_byte hlt
      by_cases h34 : l[k] = 34
      · have g1 := byte_eq (n := 34) (by omega) h34
        have hdf := run_from (S := l) (i := k + 1) (by omega)
        rw [show ((k + 1 : Nat) : Int) = (k : Int) + 1 from by omega] at hdf
        have hw1 : IntKind.i64.wrap ((k : Int) + 1) = (k : Int) + 1 := by rw [IntKind.wrap_i64]; omega
        have hfin : Hid (uqv l V = .tuple #[.string (bs t), .string (bs (l.drop (k + 1))), .bool true]) := Lib.hid (by rw [hf.out, uAt_end hlt h34]; rfl)
        obtain ⟨T, hT⟩ : ∃ T, l.drop (k + 1) = T := ⟨_, rfl⟩
        rw [hT] at hdf hfin
        clear h34 hT
        go_wp2_with fail
        refine wp_region_can [(true, 1), (true, 2), (true, 3), (true, 4), (false, 0), (true, 5), (true, 6), (true, 7)] (fun _ => True) trivial (by kernel_rfl) (by kernel_rfl) (by kernel_rfl) (fun _ _ d _ _ h => by cases d <;> exact h) ?_
        repeat (first | refine wpCan_move rfl ?_ | (refine wpCan_cons rfl ?_; intro K hK; go_simp; refine hK _ _ _ ?_; clear hK K))
        refine wpCan_cons rfl ?_
        intro K hK
        go_simp
        refine (bld_string w.heap.size w.heap.size t wr.drew hI hz).mono ?_
        rintro e w3 ⟨rfl, hb3⟩
        refine ⟨fun _ => True, trivial, hK _ _ _ ?_⟩
        clear hK K
        repeat (first | refine wpCan_move rfl ?_ | (refine wpCan_cons rfl ?_; intro K hK; go_simp; refine hK _ _ _ ?_; clear hK K))
        refine wpCan_nil ?_
        go_wp2_with fail
        go_returns
        exact ⟨by rw [hfin.out]; rfl, hb.drew.trans hb3⟩
      · have g1 := byte_ne (n := 34) (by omega) h34
        by_cases h92 : l[k] = 92
        · have g2 := byte_eq (n := 92) (by omega) h92
          by_cases hlt2 : k + 1 < l.length
          · have hx2 := fun w => run_byte_at (v := (k : Int) + 1) hlt2 (by omega) w
            have hkl : ((k : Int) + 1 == (l.length : Int)) = false := beq_eq_false_iff_ne.2 (by omega)
            by_cases hc : l[k + 1] = 34 ∨ l[k + 1] = 92
            · have hf2 := Lib.hid (hf.out.trans (uAt_esc hlt2 h92 hc))
              have hc2 : (((l[k + 1].toNat : Int) != 34) = false) ∨ (((l[k + 1].toNat : Int) != 34) = true ∧ ((l[k + 1].toNat : Int) != 92) = false) := by
                rcases hc with hc | hc <;> rw [hc]
                · exact .inl rfl
                · exact .inr ⟨rfl, rfl⟩
              obtain ⟨b, hbb⟩ : ∃ b, l[k + 1] = b := ⟨_, rfl⟩
              rw [hbb] at hx2 hc2 hf2
              clear hc hbb h92 h34
              rcases hc2 with g3 | ⟨g3, g4⟩
              all_goals
                go_wp2_with (go_at_call 176; refine (writeByte_any w.heap.size w.heap.size _ (b.toNat : Int) _ hI (by omega) hz).mono ?_; rintro e w2 ⟨rfl, h1, b1, k1⟩)
                go_roundw
                case rel => exact ⟨t ++ [b], k + 2, by omega, by simp; omega, by go_num, bld_more h1, hf2, hb.trans b1⟩
                case measure => simp [intOf]; omega
            · have hfin : Hid (V = none) := Lib.hid (hf.out.trans (uAt_bad hlt2 h92 hc))
              have g3 : ((l[k + 1].toNat : Int) != 34) = true := by have h3 : ((l[k + 1].toNat : Int) == 34) = false := byte_ne (n := 34) (by omega) (fun h => hc (.inl h)); rw [bne, h3]; rfl
              have g4 : ((l[k + 1].toNat : Int) != 92) = true := by have h3 : ((l[k + 1].toNat : Int) == 92) = false := byte_ne (n := 92) (by omega) (fun h => hc (.inr h)); rw [bne, h3]; rfl
              clear hc h92 h34
              go_wp2_with fail
              go_returns
              exact ⟨by rw [hfin.out]; rfl, hb⟩
          · have hfin : Hid (V = none) := Lib.hid (hf.out.trans (uAt_last hlt h92 hlt2))
            have hkl : ((k : Int) + 1 == (l.length : Int)) = true := beq_iff_eq.2 (by omega)
            clear h92 h34
            go_wp2_with fail
            go_returns
            exact ⟨by rw [hfin.out]; rfl, hb⟩
        · have g2 := byte_ne (n := 92) (by omega) h92
          have hf2 := Lib.hid (hf.out.trans (uAt_one hlt h34 h92))
          obtain ⟨b, hbb⟩ : ∃ b, l[k] = b := ⟨_, rfl⟩
          rw [hbb] at hx g1 g2 hf2
          clear h92 h34 hbb
          go_wp2_with (go_at_call 176; refine (writeByte_any w.heap.size w.heap.size _ (b.toNat : Int) _ hI (by omega) hz).mono ?_; rintro e w2 ⟨rfl, h1, b1, k1⟩)
          go_roundw
          case rel => exact ⟨t ++ [b], k + 1, by omega, by simp; omega, by go_num, bld_more h1, hf2, hb.trans b1⟩
          case measure => simp [intOf]; omega
    · have hfin : Hid (V = none) := Lib.hid (by rw [hf.out, uAt_nil hlt])
      go_wp2_with fail
      go_returns
      exact ⟨by rw [hfin.out]; rfl, hb⟩

end Go.Proofs.YtmmgfoepfapnkaaGreatDoor

namespace Go.Proofs.YtmmgfoepfapnkaaGreatDoor
open Go.RowKit
attribute [local go_sem] canOp readsAs readUpon

/-- what a value that begins here is -/
def valv (l : List UInt8) : Value := if heads 34 l = true then uqv (l.drop 1) (At.qd (l.drop 1)) else .tuple #[.string (bs (At.tw At.word l)), .string (bs (l.drop (At.tw At.word l).length)), .bool (At.bare (At.tw At.word l))]

set_option maxHeartbeats 4000000 in
set_option maxRecDepth 100000 in
theorem pvalue_any (l : List UInt8) (w : World) (hl : l.length ≤ 1000000000) :
    Calls Tryz.prog 132 #[.string (bs l)] w fun e w' => e = .returned (valv l) ∧ Below w.heap.size w w' := by
  have hp := hasPrefix_any l 34
  have hsz := bs_size l
  cases hh : heads 34 l with
  | true =>
    have hv : valv l = uqv (l.drop 1) (At.qd (l.drop 1)) := if_pos hh
    have h1 : 1 ≤ l.length := by
      rcases l with _ | ⟨b, r⟩
      · cases hh
      · simp
    have hsl := run_from (S := l) (i := 1) h1
    have hdl : (l.drop 1).length = l.length - 1 := List.length_drop ..
    rw [show ((1 : Nat) : Int) = 1 from rfl] at hsl
    rw [hv]
    rw [hh] at hp
    obtain ⟨R, hR⟩ : ∃ R, l.drop 1 = R := ⟨_, rfl⟩
    rw [hR] at hsl hdl
    rw [hR]
    have hu := fun w => unquote_any R w (by omega)
    clear hR hv hh
    cases hq : At.qd R with
    | none =>
      rw [hq] at hu
      simp only [uqv] at hu
      go_enter Tryz.func132, Tryz.ntmps132
      go_wp2_with (first | (go_at_call 127; refine (hp _).mono ?_; rintro e w' ⟨rfl, rfl⟩) | (go_at_call 167; refine (hu _).mono ?_; rintro e w1 ⟨rfl, hb1⟩))
      go_returns
      exact ⟨rfl, hb1⟩
    | some x =>
      obtain ⟨t, n⟩ := x
      rw [hq] at hu
      simp only [uqv] at hu
      go_enter Tryz.func132, Tryz.ntmps132
      go_wp2_with (first | (go_at_call 127; refine (hp _).mono ?_; rintro e w' ⟨rfl, rfl⟩) | (go_at_call 167; refine (hu _).mono ?_; rintro e w1 ⟨rfl, hb1⟩))
      go_returns
      exact ⟨rfl, hb1⟩
  | false =>
    have hv : valv l = .tuple #[.string (bs (At.tw At.word l)), .string (bs (l.drop (At.tw At.word l).length)), .bool (At.bare (At.tw At.word l))] := if_neg (by rw [hh]; simp)
    rw [hv]
    rw [hh] at hp
    have hw := fun w => pword_any l w hl
    have hlen := At.tw_len At.word l
    obtain ⟨W, hW⟩ : ∃ W, At.tw At.word l = W := ⟨_, rfl⟩
    rw [hW] at hw hlen
    rw [hW]
    have hzW := bs_size W
    have hsl := run_from (S := l) (i := W.length) hlen
    have hcl := fun w => at_clone W w (by omega)
    have hba := pbare_any W
    clear hW hh hv
    go_enter Tryz.func132, Tryz.ntmps132
    go_wp2_with (first | (go_at_call 127; refine (hp _).mono ?_; rintro e w' ⟨rfl, rfl⟩) | (go_at_call 128; refine (hw _).mono ?_; rintro e w1 ⟨rfl, hb1⟩))
    refine wp_region_can [(true, 0), (true, 2), (true, 3), (true, 4), (true, 5), (true, 6), (false, 1), (false, 7), (true, 8), (true, 9), (true, 10)] (Ext w1) (ext_drew w1) (by kernel_rfl) (by kernel_rfl) (by kernel_rfl) (fun _ _ d _ _ h => by cases d <;> exact h) ?_
    repeat (first | refine wpCan_move rfl ?_ | (refine wpCan_cons rfl ?_; intro K hK; go_simp; refine hK _ _ _ ?_; clear hK K))
    refine wpCan_cons rfl ?_
    intro K hK
    go_simp
    refine (hcl _).mono ?_
    rintro e w2 ⟨rfl, hb2⟩
    refine can_ext (ext_trans (ext_drew _) hb2) (hK _ _ _ ?_)
    clear hK K
    refine wpCan_cons rfl ?_
    intro K hK
    go_simp
    refine (hba _).mono ?_
    rintro e w3 ⟨rfl, hb3⟩
    refine can_ext hb3 (hK _ _ _ ?_)
    clear hK K
    repeat (first | refine wpCan_move rfl ?_ | (refine wpCan_cons rfl ?_; intro K hK; go_simp; refine hK _ _ _ ?_; clear hK K))
    refine wpCan_nil ?_
    go_wp2_with fail
    go_returns
    exact ⟨rfl, ext_trans hb1 (ext_trans (ext_drew _) (ext_trans hb2 hb3))⟩

theorem word_stop (R : List UInt8) : (bs (At.tw At.word R)).toList.isEmpty = At.stop R := by
  rcases R with _ | ⟨b, r⟩
  · exact text_nil
  · cases hb : Cl.isGap b with
    | true => rw [At.tw_no _ (by unfold At.word; rw [hb]; rfl)]; exact text_nil.trans hb.symm
    | false => rw [At.tw_yes _ (by unfold At.word; rw [hb]; rfl)]; exact (text_cons _ _).trans hb.symm

theorem run_flag (w : World) : (Instr.makeInterface 4 (.bool true)).run Tryz.prog w = .ok (.iface 4 (.bool true)) w := run_makeInterface w _ _ (by kernel_rfl)
theorem run_textv (t : List UInt8) (w : World) : (Instr.makeInterface 9 (.string (bs t))).run Tryz.prog w = .ok (.iface 9 (.string (bs t))) w := run_makeInterface w _ _ (by kernel_rfl)

/-- what a pair gives: a key, a value, what is behind it -/
def PairOut (P : At.Pr × Nat × Bool) (l : List UInt8) (e : Ending) : Prop :=
  ∃ k v r, e = .returned (.tuple #[.agg #[.string (bs k), v], .string (bs r), .bool P.2.2]) ∧ (P.2.2 = true → k = P.1.key ∧ v = av P.1 ∧ r = l.drop P.2.1) ∧ k.length ≤ l.length ∧ (v = .nilIface ∨ ∃ t x, v = .iface t x)

theorem two {w1 : World} {g : Nat} {a b : Value} {t : TypeId} {fr : Nat × Nat} (h : w1.heap[g]? = some (.cells #[a, b] t fr)) :
    w1.cell? ⟨g, 0, none⟩ = some a ∧ w1.cell? ⟨g, 1, none⟩ = some b := ⟨blk_cell h 0, blk_cell h 1⟩

theorem set_two {w : World} {g k : Nat} (h : k ≠ g) (a b : Value) : ((w.setCell ⟨g, 0, none⟩ a).setCell ⟨g, 1, none⟩ b).heap[k]? = w.heap[k]? := by
  rw [Below.heap_setCell _ _ _ _ h, Below.heap_setCell _ _ _ _ h]
theorem set_two_same {w : World} {g : Nat} {x y : Value} {t : TypeId} (h : w.heap[g]? = some (.cells #[x, y] t)) (a b : Value) : ((w.setCell ⟨g, 0, none⟩ a).setCell ⟨g, 1, none⟩ b).heap[g]? = some (.cells #[a, b] t) :=
  heap_setCell_same _ _ 1 _ _ _ (heap_setCell_same _ _ 0 _ _ _ h)
theorem below_two {B g : Nat} {w w1 : World} (h : Below B w w1) (hg : B ≤ g) (a b : Value) : Below B w ((w1.setCell ⟨g, 0, none⟩ a).setCell ⟨g, 1, none⟩ b) := (h.setCell hg _).setCell hg _

set_option maxHeartbeats 4000000 in
set_option maxRecDepth 100000 in
/-- no key -/
theorem ppair_none (l : List UInt8) (w : World) (hl : l.length ≤ 1000000000) (h0 : At.tw At.letter l = []) :
    Calls Tryz.prog 100 #[.string (bs l)] w fun e w' => PairOut (At.pair l 0) l e ∧ Below w.heap.size w w' := by
  have hk := fun w => keyLength_any l w hl
  rw [h0] at hk
  rw [At.pair_empty h0]
  clear h0
  go_enter Tryz.func100, Tryz.ntmps100
  go_wp2_with (go_at_call 131; refine (hk _).mono ?_; rintro e w' ⟨rfl, rfl⟩)
  exact bodyPost_ret (v := .tuple #[.agg #[.string ⟨#[]⟩, .nilIface], .string ⟨#[]⟩, .bool false]) (by rw [results_cell_tmp2 rfl]; go_simp) rfl ⟨⟨[], .nilIface, [], rfl, (fun h => by cases h), by simp, .inl rfl⟩, ext_alloc _ _⟩

/-- what a value gives a pair -/
theorem val_pair {l q : List UInt8} (hT : At.tw At.letter l ≠ []) (hr : l.drop (At.tw At.letter l).length = 61 :: q) :
    ∃ t r ok, valv q = .tuple #[.string (bs t), .string (bs r), .bool ok] ∧ r.length ≤ q.length ∧ (ok = false → (At.pair l 0).2.2 = false) ∧
      (ok = true → (At.pair l 0).2.2 = At.stop r ∧ (At.stop r = true → (At.pair l 0).1 = ⟨At.tw At.letter l, t, false⟩ ∧ r = l.drop (At.pair l 0).2.1)) := by
  by_cases hq : ∃ q', q = 34 :: q'
  · obtain ⟨q', rfl⟩ := hq
    have hv : valv (34 :: q') = uqv q' (At.qd q') := if_pos rfl
    rw [hv]
    cases hQ : At.qd q' with
    | none => exact ⟨[], [], false, rfl, by simp, fun _ => by rw [At.pair_open hT hr hQ], fun h => by cases h⟩
    | some x =>
      obtain ⟨t, n⟩ := x
      refine ⟨t, q'.drop n, true, rfl, by rw [List.length_drop, List.length_cons]; omega, fun h => (by cases h), fun _ => ?_⟩
      rw [At.pair_quote hT hr hQ]
      refine ⟨rfl, fun _ => ⟨rfl, ?_⟩⟩
      simp only
      rw [Nat.zero_add, ← List.drop_drop, ← List.drop_drop, hr]; rfl
  · have hn : ∀ x, q ≠ 34 :: x := fun x hx => hq ⟨x, hx⟩
    have hh : heads 34 q = false := by
      rcases q with _ | ⟨b, r⟩
      · rfl
      · exact decide_eq_false (fun h => hn r (by rw [h]))
    have hv : valv q = .tuple #[.string (bs (At.tw At.word q)), .string (bs (q.drop (At.tw At.word q).length)), .bool (At.bare (At.tw At.word q))] := if_neg (by rw [hh]; simp)
    have hst : At.stop (q.drop (At.tw At.word q).length) = true := by
      rcases At.tw_rest At.word q with h | ⟨b, r, h, hb⟩
      · rw [h]; rfl
      · rw [h]; unfold At.word at hb; simpa [At.stop] using hb
    refine ⟨_, _, _, hv, by rw [List.length_drop]; omega, fun h => by rw [At.pair_word hT hr hn]; exact h, fun h => ?_⟩
    rw [At.pair_word hT hr hn]
    refine ⟨h.trans hst.symm, fun _ => ⟨rfl, ?_⟩⟩
    simp only
    rw [Nat.zero_add, ← List.drop_drop, ← List.drop_drop, hr]; rfl

set_option maxHeartbeats 8000000 in
set_option maxRecDepth 100000 in
/-- a key alone, or a bad word -/
theorem ppair_alone (l : List UInt8) (w : World) (hl : l.length ≤ 1000000000) (h0 : At.tw At.letter l ≠ []) (h61 : heads 61 (l.drop (At.tw At.letter l).length) = false) :
    Calls Tryz.prog 100 #[.string (bs l)] w fun e w' => PairOut (At.pair l 0) l e ∧ Below w.heap.size w w' := by
  have hk := fun w => keyLength_any l w hl
  have htk := At.tw_take At.letter l
  have hlen := At.tw_len At.letter l
  obtain ⟨P, hP⟩ : ∃ P, At.pair l 0 = P := ⟨_, rfl⟩
  have hPP : Hid (P.2.2 = At.stop (l.drop (At.tw At.letter l).length) ∧ (P.2.2 = true → P = (⟨At.tw At.letter l, [], true⟩, (At.tw At.letter l).length, true))) := Lib.hid (by
    rw [← hP]
    rcases hr : l.drop (At.tw At.letter l).length with _ | ⟨b, q⟩
    · rw [At.pair_end h0 hr]; exact ⟨rfl, fun _ => by rw [Nat.zero_add]⟩
    · cases hb : Cl.isGap b with
      | true => rw [At.pair_gap h0 hr hb]; exact ⟨hb.symm, fun _ => by rw [Nat.zero_add]⟩
      | false =>
        rw [At.pair_bad h0 hr hb (fun h => by rw [hr] at h61; simp [heads, h] at h61)]
        exact ⟨hb.symm, fun h => by cases h⟩)
  rw [hP]
  clear hP
  have hT0 : 0 < (At.tw At.letter l).length := List.length_pos_iff.2 h0
  obtain ⟨T, hT⟩ : ∃ T, At.tw At.letter l = T := ⟨_, rfl⟩
  rw [hT] at hk htk hlen hPP hT0 h61
  have hzT := bs_size T
  have hs1 := run_upto (S := l) (i := T.length) hlen
  have hs2 := run_from (S := l) (i := T.length) hlen
  rw [htk] at hs1
  obtain ⟨R, hR⟩ : ∃ R, l.drop T.length = R := ⟨_, rfl⟩
  have hRl : R.length ≤ l.length := by rw [← hR, List.length_drop]; omega
  rw [hR] at hs2 hPP h61
  have hcl := fun w => at_clone T w (by omega)
  have hpx := hasPrefix_any R 61
  rw [h61] at hpx
  have hwd := fun w => pword_any R w (by omega)
  have hem := word_stop R
  have hn0 : ((T.length : Int) == 0) = false := beq_eq_false_iff_ne.2 (by omega)
  have hmi := run_flag
  have hRr := Lib.hid hR
  clear h0 hT htk hR h61
  go_enter Tryz.func100, Tryz.ntmps100
  go_wp2_with (go_at_call 131; refine (hk _).mono ?_; rintro e w' ⟨rfl, rfl⟩)
  refine wp_region_tree (.rd 0 (.rd 1 (.rd 2 (.rd 6 (.rd 7 (.rd 8 (.rd 4 (.fk 3 (.rd 5 (.mk 9 (.mk 10 (.rd 11 .fin)))) 9 (.mk 3 (.rd 5 (.mk 10 (.rd 11 .fin)))))))))))) (fun _ => True) trivial (by kernel_rfl) (by kernel_rfl) (by kernel_rfl) (fun _ _ d _ _ h => by cases d <;> exact h) ?_
  repeat (first | refine wpT_move rfl ?_ | (refine wpT_rd rfl ?_; intro K hK; go_simp; refine hK _ _ _ ?_; clear hK K))
  refine wpT_fk ?wa ?wb
  case' wa =>
    refine wpT_mk rfl ?_
    intro K hK
    go_simp
    refine (hcl _).mono ?_
    rintro e w2 ⟨rfl, hb2⟩
    refine ⟨fun _ => True, trivial, hK _ _ _ ?_⟩
    clear hK K
    repeat (first | refine wpT_move rfl ?_ | (refine wpT_rd rfl ?_; intro K hK; go_simp; refine hK _ _ _ ?_; clear hK K))
    refine wpT_mk rfl ?_
    intro K hK
    go_simp
    refine ⟨fun _ => True, trivial, hK _ _ _ ?_⟩
    clear hK K
    refine wpT_mk rfl ?_
    intro K hK
    go_simp
    refine ⟨fun _ => True, trivial, hK _ _ _ ?_⟩
    clear hK K
    repeat (first | refine wpT_move rfl ?_ | (refine wpT_rd rfl ?_; intro K hK; go_simp; refine hK _ _ _ ?_; clear hK K))
    refine wpT_fin ?_
    have hr2 := (keep (heap_alloc_new w _) (ext_trans (ext_drew _) hb2)).1
    have hG := heap_alloc_new w2 (.cells #[.string (bs T), .iface 4 (.bool true)] 144)
    have hRR := (keep hr2 (ext_alloc w2 (.cells #[.string (bs T), .iface 4 (.bool true)] 144))).1
    have hBZ := Lib.hid (ext_trans (ext_trans (ext_alloc _ _) (ext_trans (ext_drew _) hb2)) (ext_alloc w2 (.cells #[.string (bs T), .iface 4 (.bool true)] 144)))
    have hne : w.heap.size < w2.heap.size := by have := hb2.size; simp at this; omega
    clear hr2 hb2
    obtain ⟨wz, hwz⟩ : ∃ wz, w2.alloc (.cells #[.string (bs T), .iface 4 (.bool true)] 144) = wz := ⟨_, rfl⟩
    rw [hwz] at hG hRR hBZ ⊢
    obtain ⟨g, hg⟩ : ∃ g, w2.heap.size = g := ⟨_, rfl⟩
    rw [hg] at hG hne ⊢
    clear hwz hg
  case' wb =>
    refine wpT_mk rfl ?_
    intro K hK
    go_simp
    refine ⟨fun _ => True, trivial, hK _ _ _ ?_⟩
    clear hK K
    refine wpT_mk rfl ?_
    intro K hK
    go_simp
    refine (hcl _).mono ?_
    rintro e w2 ⟨rfl, hb2⟩
    replace hb2 := ext_trans (ext_drew _) hb2
    have hr2 := (keep (blk_one w _ _) hb2).1
    have c1 := (keep (blk_two w _ _) hb2).1
    obtain ⟨d1, d2⟩ := two c1
    have d3 := blk_free c1
    have hne : w.heap.size < w.heap.size + 1 := by omega
    refine ⟨fun _ => True, trivial, hK _ _ _ ?_⟩
    clear hK K
    repeat (first | refine wpT_move rfl ?_ | (refine wpT_rd rfl ?_; intro K hK; go_simp; refine hK _ _ _ ?_; clear hK K))
    refine wpT_mk rfl ?_
    intro K hK
    go_simp
    refine ⟨fun _ => True, trivial, hK _ _ _ ?_⟩
    clear hK K
    repeat (first | refine wpT_move rfl ?_ | (refine wpT_rd rfl ?_; intro K hK; go_simp; refine hK _ _ _ ?_; clear hK K))
    refine wpT_fin ?_
    have hG := set_two_same c1 (.string (bs T)) (.iface 4 (.bool true))
    have hRR := (set_two (w := w2) (g := w.heap.size + 1) (k := w.heap.size) (by omega) (.string (bs T)) (.iface 4 (.bool true))).trans hr2
    have hBZ := Lib.hid (below_two (g := w.heap.size + 1) (ext_trans (ext_trans (ext_alloc _ _) (ext_alloc _ _)) hb2) (by omega) (.string (bs T)) (.iface 4 (.bool true)))
    clear hr2 hb2 c1 d1 d2 d3
    obtain ⟨wz, hwz⟩ : ∃ wz, ((w2.setCell ⟨w.heap.size + 1, 0, none⟩ (.string (bs T))).setCell ⟨w.heap.size + 1, 1, none⟩ (.iface 4 (.bool true))) = wz := ⟨_, rfl⟩
    rw [hwz] at hG hRR hBZ ⊢
    obtain ⟨g, hg⟩ : ∃ g, w.heap.size + 1 = g := ⟨_, rfl⟩
    rw [hg] at hG hne ⊢
    clear hwz hg
  all_goals
    obtain ⟨g0, g1⟩ := two hG
    go_wp2_with (go_at_call 127; refine (hpx _).mono ?_; rintro e wz ⟨rfl, rfl⟩)
    refine wp_region_can [(true, 0), (true, 1), (true, 2), (false, 3), (true, 4), (false, 5), (true, 6), (true, 7)] (fun u => u.heap[g]? = some (.cells #[.string (bs T), .iface 4 (.bool true)] 144)) hG (by kernel_rfl) (by kernel_rfl) (by kernel_rfl) (fun _ _ d _ _ h => by cases d <;> exact h) ?_
    refine wpCan_read (.agg #[.string (bs T), .iface 4 (.bool true)]) rfl rfl hG (fun u hu => by obtain ⟨k0, k1⟩ := two hu; go_simp) ?_
    repeat (first | refine wpCan_move rfl ?_ | (refine wpCan_cons rfl ?_; intro K hK; go_simp; refine hK _ _ _ ?_; clear hK K))
    refine wpCan_cons rfl ?_
    intro K hK
    go_simp
    refine (hwd _).mono ?_
    rintro e w5 ⟨rfl, hb5⟩
    have hG5 := (keep hG (ext_trans (ext_drew _) hb5)).1
    have hR5 := (keep hRR (ext_trans (ext_drew _) hb5)).1
    have hBZ5 := hBZ.out.trans ((ext_trans (ext_drew _) hb5).mono hBZ.out.size)
    refine can_same (S := fun u => u.heap[g]? = some (.cells #[.string (bs T), .iface 4 (.bool true)] 144)) hG5 (hK _ _ _ ?_)
    clear hK K
    repeat (first | refine wpCan_move rfl ?_ | (refine wpCan_cons rfl ?_; intro K hK; go_simp; refine hK _ _ _ ?_; clear hK K))
    obtain ⟨r0, r1⟩ := two hR5
    have rf := blk_free hR5
    refine wpCan_cons rfl ?_
    intro K hK
    go_simp
    refine can_same (S := fun u => u.heap[g]? = some (.cells #[.string (bs T), .iface 4 (.bool true)] 144)) ((set_two (Nat.ne_of_gt hne) _ _).trans hG5) (hK _ _ _ ?_)
    clear hK K
    repeat (first | refine wpCan_move rfl ?_ | (refine wpCan_cons rfl ?_; intro K hK; go_simp; refine hK _ _ _ ?_; clear hK K))
    refine wpCan_nil ?_
    go_wp2_with fail
    exact bodyPost_ret (v := .tuple #[.agg #[.string (bs T), .iface 4 (.bool true)], .string (bs R), .bool (At.stop R)]) (by rw [results_cell_tmp2 rfl]; go_simp) rfl
      ⟨⟨T, .iface 4 (.bool true), R, by rw [hPP.out.1], (fun h => by rw [hPP.out.2 h]; exact ⟨rfl, rfl, hRr.out.symm⟩), hlen, .inr ⟨_, _, rfl⟩⟩, below_two hBZ5 (Nat.le_refl _) _ _⟩
end Go.Proofs.YtmmgfoepfapnkaaGreatDoor

namespace Go.Proofs.YtmmgfoepfapnkaaGreatDoor
open Go.RowKit
attribute [local go_sem] canOp readsAs readUpon

set_option maxHeartbeats 8000000 in
set_option maxRecDepth 100000 in
/-- a key and a text -/
theorem ppair_text (l : List UInt8) (w : World) (hl : l.length ≤ 1000000000) (h0 : At.tw At.letter l ≠ []) (q : List UInt8) (hq : l.drop (At.tw At.letter l).length = 61 :: q) :
    Calls Tryz.prog 100 #[.string (bs l)] w fun e w' => PairOut (At.pair l 0) l e ∧ Below w.heap.size w w' := by
  have hk := fun w => keyLength_any l w hl
  have htk := At.tw_take At.letter l
  have hlen := At.tw_len At.letter l
  obtain ⟨t, r, okv, hval, hrq, hbad, hgood⟩ := val_pair h0 hq
  obtain ⟨P, hP⟩ : ∃ P, At.pair l 0 = P := ⟨_, rfl⟩
  rw [hP] at hbad hgood
  rw [hP]
  clear hP
  replace hbad := Lib.hid hbad
  replace hgood := Lib.hid hgood
  have hT0 : 0 < (At.tw At.letter l).length := List.length_pos_iff.2 h0
  obtain ⟨T, hT⟩ : ∃ T, At.tw At.letter l = T := ⟨_, rfl⟩
  rw [hT] at hk htk hlen hT0 hq hgood
  have hzT := bs_size T
  have hs1 := run_upto (S := l) (i := T.length) hlen
  have hs2 := run_from (S := l) (i := T.length) hlen
  have hs3 := run_from (S := 61 :: q) (i := 1) (by simp)
  rw [show ((1 : Nat) : Int) = 1 from rfl, show (61 :: q).drop 1 = q from rfl] at hs3
  rw [htk] at hs1
  rw [hq] at hs2
  have hql : q.length ≤ l.length := by have := congrArg List.length hq; rw [List.length_drop, List.length_cons] at this; omega
  have hcl := fun w => at_clone T w (by omega)
  have hpx := hasPrefix_any (61 :: q) 61
  rw [show heads 61 (61 :: q) = true from rfl] at hpx
  have hvl := fun w => pvalue_any q w (by omega)
  rw [hval] at hvl
  have hzR : (bs (61 :: q)).size = q.length + 1 := by rw [bs_size, List.length_cons]
  obtain ⟨R, hR⟩ : ∃ R, 61 :: q = R := ⟨_, rfl⟩
  rw [hR] at hs2 hs3 hpx hzR
  have hwd := fun w => pword_any r w (by omega)
  have hem := word_stop r
  have hn0 : ((T.length : Int) == 0) = false := beq_eq_false_iff_ne.2 (by omega)
  have hmi := run_flag
  have hmt := run_textv t
  clear h0 hT htk hR hq hval
  go_enter Tryz.func100, Tryz.ntmps100
  go_wp2_with (go_at_call 131; refine (hk _).mono ?_; rintro e w' ⟨rfl, rfl⟩)
  refine wp_region_tree (.rd 0 (.rd 1 (.rd 2 (.rd 6 (.rd 7 (.rd 8 (.rd 4 (.fk 3 (.rd 5 (.mk 9 (.mk 10 (.rd 11 .fin)))) 9 (.mk 3 (.rd 5 (.mk 10 (.rd 11 .fin)))))))))))) (fun _ => True) trivial (by kernel_rfl) (by kernel_rfl) (by kernel_rfl) (fun _ _ d _ _ h => by cases d <;> exact h) ?_
  repeat (first | refine wpT_move rfl ?_ | (refine wpT_rd rfl ?_; intro K hK; go_simp; refine hK _ _ _ ?_; clear hK K))
  refine wpT_fk ?wa ?wb
  case' wa =>
    refine wpT_mk rfl ?_
    intro K hK
    go_simp
    refine (hcl _).mono ?_
    rintro e w2 ⟨rfl, hb2⟩
    refine ⟨fun _ => True, trivial, hK _ _ _ ?_⟩
    clear hK K
    repeat (first | refine wpT_move rfl ?_ | (refine wpT_rd rfl ?_; intro K hK; go_simp; refine hK _ _ _ ?_; clear hK K))
    refine wpT_mk rfl ?_
    intro K hK
    go_simp
    refine ⟨fun _ => True, trivial, hK _ _ _ ?_⟩
    clear hK K
    refine wpT_mk rfl ?_
    intro K hK
    go_simp
    refine ⟨fun _ => True, trivial, hK _ _ _ ?_⟩
    clear hK K
    repeat (first | refine wpT_move rfl ?_ | (refine wpT_rd rfl ?_; intro K hK; go_simp; refine hK _ _ _ ?_; clear hK K))
    refine wpT_fin ?_
    have hr2 := (keep (heap_alloc_new w _) (ext_trans (ext_drew _) hb2)).1
    have hG := heap_alloc_new w2 (.cells #[.string (bs T), .iface 4 (.bool true)] 144)
    have hRR := (keep hr2 (ext_alloc w2 (.cells #[.string (bs T), .iface 4 (.bool true)] 144))).1
    have hBZ := Lib.hid (ext_trans (ext_trans (ext_alloc _ _) (ext_trans (ext_drew _) hb2)) (ext_alloc w2 (.cells #[.string (bs T), .iface 4 (.bool true)] 144)))
    have hne : w.heap.size < w2.heap.size := by have := hb2.size; simp at this; omega
    clear hr2 hb2
    obtain ⟨wz, hwz⟩ : ∃ wz, w2.alloc (.cells #[.string (bs T), .iface 4 (.bool true)] 144) = wz := ⟨_, rfl⟩
    rw [hwz] at hG hRR hBZ ⊢
    obtain ⟨g, hg⟩ : ∃ g, w2.heap.size = g := ⟨_, rfl⟩
    rw [hg] at hG hne ⊢
    clear hwz hg
  case' wb =>
    refine wpT_mk rfl ?_
    intro K hK
    go_simp
    refine ⟨fun _ => True, trivial, hK _ _ _ ?_⟩
    clear hK K
    refine wpT_mk rfl ?_
    intro K hK
    go_simp
    refine (hcl _).mono ?_
    rintro e w2 ⟨rfl, hb2⟩
    replace hb2 := ext_trans (ext_drew _) hb2
    have hr2 := (keep (blk_one w _ _) hb2).1
    have c1 := (keep (blk_two w _ _) hb2).1
    obtain ⟨d1, d2⟩ := two c1
    have d3 := blk_free c1
    have hne : w.heap.size < w.heap.size + 1 := by omega
    refine ⟨fun _ => True, trivial, hK _ _ _ ?_⟩
    clear hK K
    repeat (first | refine wpT_move rfl ?_ | (refine wpT_rd rfl ?_; intro K hK; go_simp; refine hK _ _ _ ?_; clear hK K))
    refine wpT_mk rfl ?_
    intro K hK
    go_simp
    refine ⟨fun _ => True, trivial, hK _ _ _ ?_⟩
    clear hK K
    repeat (first | refine wpT_move rfl ?_ | (refine wpT_rd rfl ?_; intro K hK; go_simp; refine hK _ _ _ ?_; clear hK K))
    refine wpT_fin ?_
    have hG := set_two_same c1 (.string (bs T)) (.iface 4 (.bool true))
    have hRR := (set_two (w := w2) (g := w.heap.size + 1) (k := w.heap.size) (by omega) (.string (bs T)) (.iface 4 (.bool true))).trans hr2
    have hBZ := Lib.hid (below_two (g := w.heap.size + 1) (ext_trans (ext_trans (ext_alloc _ _) (ext_alloc _ _)) hb2) (by omega) (.string (bs T)) (.iface 4 (.bool true)))
    clear hr2 hb2 c1 d1 d2 d3
    obtain ⟨wz, hwz⟩ : ∃ wz, ((w2.setCell ⟨w.heap.size + 1, 0, none⟩ (.string (bs T))).setCell ⟨w.heap.size + 1, 1, none⟩ (.iface 4 (.bool true))) = wz := ⟨_, rfl⟩
    rw [hwz] at hG hRR hBZ ⊢
    obtain ⟨g, hg⟩ : ∃ g, w.heap.size + 1 = g := ⟨_, rfl⟩
    rw [hg] at hG hne ⊢
    clear hwz hg
  all_goals
    obtain ⟨g0, g1⟩ := two hG
    have gf := blk_free hG
    obtain ⟨r0, r1⟩ := two hRR
    have rf := blk_free hRR
    have hzz := hBZ.out.size
    have hgg : g < wz.heap.size := (Array.getElem?_eq_some_iff.1 hG).1
    cases okv with
    | false =>
      have hbad2 : Hid (P.2.2 = false) := Lib.hid (hbad.out rfl)
      clear hbad hgood
      go_wp2_with fail
      refine (hpx _).mono ?_
      rintro e wz ⟨rfl, rfl⟩
      go_wp2_with fail
      refine (hvl _).mono ?_
      rintro e w4 ⟨rfl, hb4⟩
      obtain ⟨r0, r1⟩ := two (keep hRR hb4).1
      have rf := blk_free (keep hRR hb4).1
      have hBZ4 := hBZ.out.trans (hb4.mono hBZ.out.size)
      go_wp2_with fail
      exact bodyPost_ret (v := .tuple #[.agg #[.string ⟨#[]⟩, .nilIface], .string ⟨#[]⟩, .bool false]) (by rw [results_cell_tmp2 rfl]; go_simp) rfl
        ⟨⟨[], .nilIface, [], by rw [hbad2.out]; rfl, (fun h => by rw [hbad2.out] at h; cases h), by simp, .inl rfl⟩, below_two hBZ4 (Nat.le_refl _) _ _⟩
    | true =>
      have hgood2 := Lib.hid (hgood.out rfl)
      clear hbad hgood
      go_wp2_with fail
      refine (hpx _).mono ?_
      rintro e wz ⟨rfl, rfl⟩
      go_wp2_with fail
      refine (hvl _).mono ?_
      rintro e w4 ⟨rfl, hb4⟩
      have hG4 := (keep hG hb4).1
      have hR4 := (keep hRR hb4).1
      have hBZ4 := Lib.hid (hBZ.out.trans (hb4.mono hBZ.out.size))
      obtain ⟨g0, g1⟩ := two hG4
      have gf := blk_free hG4
      clear hb4 hBZ hG hRR
      go_wp2_with fail
      have hG5 := heap_setCell_same _ _ 1 _ _ (.iface 9 (.string (bs t))) hG4
      have hG5 : (w4.setCell ⟨g, 1, none⟩ (.iface 9 (.string (bs t)))).heap[g]? = some (.cells #[.string (bs T), .iface 9 (.string (bs t))] 144) := heap_setCell_same _ _ 1 _ _ (.iface 9 (.string (bs t))) hG4
      have hR5 := (Below.heap_setCell w4 ⟨g, 1, none⟩ (.iface 9 (.string (bs t))) w.heap.size (Nat.ne_of_lt hne)).trans hR4
      have hBZ5 := Lib.hid (hBZ4.out.setCell (p := ⟨g, 1, none⟩) (Nat.le_of_lt hne) (.iface 9 (.string (bs t))))
      clear hBZ4 hR4 hG4
      obtain ⟨wy, hwy⟩ : ∃ wy, w4.setCell ⟨g, 1, none⟩ (.iface 9 (.string (bs t))) = wy := ⟨_, rfl⟩
      rw [hwy] at hG5 hR5 hBZ5 ⊢
      clear hwy g0 g1 gf
      refine wp_region_can [(true, 0), (true, 1), (true, 2), (false, 3), (true, 4), (false, 5), (true, 6), (true, 7)] (fun u => u.heap[g]? = some (.cells #[.string (bs T), .iface 9 (.string (bs t))] 144)) hG5 (by kernel_rfl) (by kernel_rfl) (by kernel_rfl) (fun _ _ d _ _ h => by cases d <;> exact h) ?_
      refine wpCan_read (.agg #[.string (bs T), .iface 9 (.string (bs t))]) rfl rfl hG5 (fun u hu => by obtain ⟨k0, k1⟩ := two hu; go_simp) ?_
      repeat (first | refine wpCan_move rfl ?_ | (refine wpCan_cons rfl ?_; intro K hK; go_simp; refine hK _ _ _ ?_; clear hK K))
      refine wpCan_cons rfl ?_
      intro K hK
      go_simp
      refine (hwd _).mono ?_
      rintro e w6 ⟨rfl, hb6⟩
      have hG6 := (keep hG5 (ext_trans (ext_drew _) hb6)).1
      have hR6 := (keep hR5 (ext_trans (ext_drew _) hb6)).1
      have hBZ6 := hBZ5.out.trans ((ext_trans (ext_drew _) hb6).mono hBZ5.out.size)
      refine can_same (S := fun u => u.heap[g]? = some (.cells #[.string (bs T), .iface 9 (.string (bs t))] 144)) hG6 (hK _ _ _ ?_)
      clear hK K
      repeat (first | refine wpCan_move rfl ?_ | (refine wpCan_cons rfl ?_; intro K hK; go_simp; refine hK _ _ _ ?_; clear hK K))
      obtain ⟨r0, r1⟩ := two hR6
      have rf := blk_free hR6
      refine wpCan_cons rfl ?_
      intro K hK
      go_simp
      refine can_same (S := fun u => u.heap[g]? = some (.cells #[.string (bs T), .iface 9 (.string (bs t))] 144)) ((set_two (Nat.ne_of_gt hne) _ _).trans hG6) (hK _ _ _ ?_)
      clear hK K
      repeat (first | refine wpCan_move rfl ?_ | (refine wpCan_cons rfl ?_; intro K hK; go_simp; refine hK _ _ _ ?_; clear hK K))
      refine wpCan_nil ?_
      go_wp2_with fail
      exact bodyPost_ret (v := .tuple #[.agg #[.string (bs T), .iface 9 (.string (bs t))], .string (bs r), .bool (At.stop r)]) (by rw [results_cell_tmp2 rfl]; go_simp) rfl
        ⟨⟨T, .iface 9 (.string (bs t)), r, by rw [hgood2.out.1], (fun h => by
          obtain ⟨e1, e2⟩ := hgood2.out.2 (by rw [← hgood2.out.1]; exact h)
          rw [e1]; exact ⟨rfl, rfl, e2⟩), hlen, .inr ⟨_, _, rfl⟩⟩, below_two hBZ6 (Nat.le_refl _) _ _⟩

/-- a pair, whatever it is -/
theorem ppair_any (l : List UInt8) (w : World) (hl : l.length ≤ 1000000000) :
    Calls Tryz.prog 100 #[.string (bs l)] w fun e w' => PairOut (At.pair l 0) l e ∧ Below w.heap.size w w' := by
  by_cases h0 : At.tw At.letter l = []
  · exact ppair_none l w hl h0
  · cases h61 : heads 61 (l.drop (At.tw At.letter l).length) with
    | false => exact ppair_alone l w hl h0 h61
    | true =>
      rcases hr : l.drop (At.tw At.letter l).length with _ | ⟨b, q⟩
      · rw [hr] at h61; cases h61
      · rw [hr] at h61
        have hb : b = 61 := of_decide_eq_true h61
        subst hb
        exact ppair_text l w hl h0 q hr
end Go.Proofs.YtmmgfoepfapnkaaGreatDoor

namespace Go.Proofs.YtmmgfoepfapnkaaGreatDoor
open Go.RowKit

theorem av_shape (p : At.Pr) : ∃ t x, av p = .iface t x := by unfold av; split <;> exact ⟨_, _, rfl⟩
theorem own_grown {w w1 : World} {base : Nat} {e : TypeId} {size n : Nat} {v : Value} {xs : List Value} {row : Option Nat} (h : w.ownsRow base e size v n xs) (hg : w.grownBy w1 row) (hne : ∀ k, v.ownBlock = some k → row = some k → False) : w1.ownsRow base e size v n xs := by
  refine ⟨h.1, ?_⟩
  rcases h.2 with hn | ⟨g, cap, cur, rfl, hbg, hgg, rest⟩
  · exact .inl hn
  · exact .inr ⟨g, cap, cur, rfl, hbg, (hg.block g (Array.getElem?_eq_some_iff.1 hgg).1 (fun e => hne g rfl e.symm)).trans hgg, rest⟩
theorem grown_block {w w1 : World} {row : Option Nat} {g : Nat} {o : Obj} (h : w.grownBy w1 row) (hg : w.heap[g]? = some o) (hne : row ≠ some g) : w1.heap[g]? = some o :=
  (h.block g (Array.getElem?_eq_some_iff.1 hg).1 (fun e => hne e.symm)).trans hg

/-- how long a text is -/
def strLen : Value → Nat
  | .string b => b.size
  | _ => 0

set_option maxHeartbeats 8000000 in
set_option maxRecDepth 100000 in
theorem ppairs_any (l : List UInt8) (w : World) (hl : l.length ≤ 1000000000) :
    Calls Tryz.prog 80 #[.string (bs l)] w fun e w' => (∃ v, e = .returned (.tuple #[.string (bs (At.pairs l).1), v, .bool (At.pairs l).2.2]) ∧ w'.ownsRow w.heap.size 144 2 v (At.pairs l).2.1.length (qcells (At.pairs l).2.1)) ∧ Below w.heap.size w w' := by
  have hla := fun w => language_any l w hl
  obtain ⟨f0, first0, i0, h1, h2, h3, h4, h5⟩ := lang_start l
  obtain ⟨L, hL⟩ : ∃ L, (At.langOf (l.drop (Cl.gaps l))).1 = L := ⟨_, rfl⟩
  obtain ⟨R, hR⟩ : ∃ R, (At.langOf (l.drop (Cl.gaps l))).2 = R := ⟨_, rfl⟩
  rw [hL, hR] at hla
  rw [hR] at h3
  rw [hL] at h4
  clear hL hR
  have hun := ungap_any R
  rw [h3] at hun
  obtain ⟨j0, hj0⟩ : ∃ j, i0 + Cl.gaps (l.drop i0) = j := ⟨_, rfl⟩
  rw [hj0] at hun h5
  have hjl : j0 ≤ l.length := by have := Cl.gaps_le (l.drop i0); rw [List.length_drop] at this; omega
  replace hj0 := Lib.hid hj0
  replace h4 := Lib.hid h4
  replace h5 := Lib.hid h5
  clear h3
  have hmm := @run_makeMap Tryz.prog
  go_enter Tryz.func80, Tryz.ntmps80
  go_wp2_with fail
  refine (hla _).mono ?_
  rintro e w1 ⟨rfl, hb1⟩
  replace hb1 := Lib.hid hb1
  go_wp2_with fail
  refine (hun _).mono ?_
  rintro e w2 ⟨rfl, hb2⟩
  have hm2 : w2.ownsMap Tryz.prog 9 unitElem w1.heap.size 0 (keySet []) := map_ext (World.ownsMap_made w1 Tryz.prog 9 unitElem) hb2
  have hM1 : w.heap.size ≤ w1.heap.size := hb1.out.size
  have hb3 := Lib.hid (ext_trans (ext_trans hb1.out (ext_alloc _ _)) hb2)
  obtain ⟨M, hM⟩ : ∃ M, w1.heap.size = M := ⟨_, rfl⟩
  rw [hM] at hm2 hM1 ⊢
  clear hM hb1 hb2 hun hla
  go_wp2_with fail
  go_loopw [6, 7] (fun vr vo wr => ∃ (f : Nat) (first : Bool) (out : List At.Pr) (i j : Nat), i ≤ j ∧ j ≤ l.length ∧ l.length + 1 ≤ f + i ∧ out.length ≤ i ∧ vr = .string (bs (l.drop j)) ∧ wr.ownsRow (M + 1) 144 2 vo out.length (qcells out) ∧ wr.ownsMap Tryz.prog 9 unitElem M out.length (keySet out) ∧
      Hid (i + Cl.gaps (l.drop i) = j) ∧ Hid (At.prs l f first L out i = At.pairs l) ∧ Hid (l.drop j ≠ [] → At.isLang first (At.tw At.word (l.drop j)) = false) ∧ Below w.heap.size w wr) (fun vr _ _ => strLen vr)
  case atStart => exact ⟨f0, first0, [], i0, j0, by have := hj0.out; omega, hjl, h1, by simp, rfl, World.ownsRow_nil _ _ _ _, hm2, hj0, h4, h5, hb3.out⟩
  case round =>
    obtain ⟨f, first, out, i, j, hij, hj, hfu, hoi, rfl, hown, hmap, hgj, hp, hlg, hb⟩ := hrel
    obtain ⟨f, rfl⟩ : ∃ g, f = g + 1 := ⟨f - 1, by omega⟩
    have hlt := hmap.lt
    by_cases hT : l.drop j = []
    · have hfin : Hid (At.pairs l = (L, out, true)) := Lib.hid (by rw [← hp.out]; exact At.prs_done hgj.out hT)
      rw [hT]
      have ht := text_nil
      clear hT
      go_wp2_with fail
      go_returns
      exact ⟨⟨_, by rw [hfin.out]; rfl, by rw [hfin.out]; exact own_base hown (by omega)⟩, hb⟩
    · have hL := hlg.out hT
      have hpb := @At.prs_bad l f first L out i j hgj.out hT hL
      have hpt := @At.prs_twice l f first L out i j hgj.out hT hL
      have hpm := @At.prs_more l f first L out i j hgj.out hT hL
      have hpw := @At.pair_within (l.drop j) j
      obtain ⟨s1, s2, s3⟩ := At.pair_shift (l.drop j) j
      rw [List.length_drop] at hpw
      rw [s2] at hpb hpt hpm hpw
      have hTl : (l.drop j).length ≤ l.length := by rw [List.length_drop]; omega
      have hpc := fun w => ppair_any (l.drop j) w (by omega)
      have hTln : Hid ((l.drop j).length = l.length - j) := Lib.hid (List.length_drop ..)
      have ht : (bs (l.drop j)).toList.isEmpty = false := by
        rcases hq : l.drop j with _ | ⟨b, r⟩
        · exact absurd hq hT
        · exact text_cons b r
      have hdd : ∀ m, (l.drop j).drop m = l.drop (j + m) := fun m => List.drop_drop ..
      obtain ⟨T, hTT⟩ : ∃ T, l.drop j = T := ⟨_, rfl⟩
      rw [hTT] at hpc ht hdd s1 s3 hpb hpt hpm hpw hTl hTln ⊢
      obtain ⟨P, hP⟩ : ∃ P, At.pair T 0 = P := ⟨_, rfl⟩
      rw [hP] at hpc s1 s3 hpb hpt hpm hpw
      obtain ⟨p, te, ok⟩ := P
      obtain ⟨Pj, hPj⟩ : ∃ P, At.pair T j = P := ⟨_, rfl⟩
      rw [hPj] at s1 s3 hpt hpm hpw
      simp only at s1 s3 hpb hpt hpm hpw
      replace hdd := Lib.hid hdd
      replace hpb := Lib.hid hpb
      replace hpt := Lib.hid hpt
      replace hpm := Lib.hid hpm
      replace hpw := Lib.hid hpw
      replace s1 := Lib.hid s1
      replace s3 := Lib.hid s3
      replace hmap := Lib.hid hmap
      replace hown := Lib.hid hown
      obtain ⟨A, c, rfl, hlc⟩ := own_shape hown.out
      clear hT hL hTT hP hPj s2 hgj hlg h4 h5 hj0
      go_wp2_with fail
      refine (hpc _).mono ?_
      rintro e w4 ⟨⟨k, v, r, rfl, hkv, hkl, hvs⟩, hb4⟩
      have hmap4 := map_ext hmap.out hb4
      have hlt4 := hmap4.lt
      have hown4 := own_below hown.out hb4
      have hB4 := Lib.hid (hb.trans (hb4.mono hb.size))
      have hkey : keyOf Tryz.prog 9 (.string (bs k)) = some (.string k) := WideMaps.keyOf_string_mk Tryz.underlying9 (by rw [bs_size]; unfold maxLen; omega)
      obtain ⟨tw, htw⟩ : ∃ t, Maps.has (keySet out) (.string k) = t := ⟨_, rfl⟩
      replace hkv := Lib.hid hkv
      replace hmap4 := Lib.hid hmap4
      replace hown4 := Lib.hid hown4
      clear hb4 hpc hmap hown
      cases ok with
      | false =>
        have hfin : Hid (At.pairs l = ([], [], false)) := Lib.hid (hp.out.symm.trans (hpb.out rfl))
        clear hp hpb hpt hpm hpw s1 s3 hkv
        rcases hvs with rfl | ⟨vt, vx, rfl⟩
        all_goals
          go_wp2_with (at_lookup; refine wpList_lookup_own_unit _ rfl _ _ 93 rfl 9 94 strLaw Tryz.underlying93 (zeroUnit _) M out.length (keySet out) rfl (hmap4.out.alloc _) _ _ rfl hkey ?_; rw [htw])
          go_returns
          exact ⟨⟨_, by rw [hfin.out]; rfl, by rw [hfin.out]; exact World.ownsRow_nil _ _ _ _⟩, (hB4.out.alloc hB4.out.size _).alloc (by have := hB4.out.size; simp; omega) _⟩
      | true =>
        obtain ⟨e1, e2, e3⟩ := hkv.out rfl
        obtain ⟨vt, vx, hav⟩ := av_shape p
        rw [hav] at e2
        subst e1 e2
        clear hvs hkv hpb
        have htw2 : tw = At.twice out p.key := by rw [← htw, keySet_has]
        cases tw with
        | true =>
          have hfin : Hid (At.pairs l = ([], [], false)) := Lib.hid (hp.out.symm.trans (hpt.out rfl (by rw [s1.out, ← htw2])))
          clear hp hpt hpm hpw s1 s3 e3 htw2 hav
          go_wp2_with (at_lookup; refine wpList_lookup_own_unit _ rfl _ _ 93 rfl 9 94 strLaw Tryz.underlying93 (zeroUnit _) M out.length (keySet out) rfl (hmap4.out.alloc _) _ _ rfl hkey ?_; rw [htw])
          go_returns
          exact ⟨⟨_, by rw [hfin.out]; rfl, by rw [hfin.out]; exact World.ownsRow_nil _ _ _ _⟩, (hB4.out.alloc hB4.out.size _).alloc (by have := hB4.out.size; simp; omega) _⟩
        | false =>
          have hp2 : Hid (At.prs l f false L (out ++ [p]) (j + te) = At.pairs l) := Lib.hid (by
            have := hpm.out rfl (by rw [s1.out, ← htw2])
            rw [s1.out, s3.out rfl] at this
            exact this.symm.trans hp.out)
          have hjt : j < j + te ∧ j + te ≤ l.length := by
            have := hpw.out rfl
            rw [s3.out rfl] at this; omega
          have hr : r = l.drop (j + te) := by rw [e3, hdd.out]
          clear e3
          subst hr
          have hun := ungap_any (l.drop (j + te))
          rw [List.drop_drop] at hun
          have hgl := Cl.gaps_le (l.drop (j + te))
          rw [List.length_drop] at hgl
          clear hp hpt hpm hpw s1 s3 htw2 hdd
          go_wp2_with (first
            | (at_lookup; refine wpList_lookup_own_unit _ rfl _ _ 93 rfl 9 94 strLaw Tryz.underlying93 (zeroUnit _) M out.length (keySet out) rfl (hmap4.out.alloc _) _ _ rfl hkey ?_; rw [htw])
            | (at_mapUpdate; refine wpList_mapUpdate_own _ rfl _ _ _ 93 rfl 9 94 strLaw Tryz.underlying93 (unitElem (H := Unit)) M out.length _ rfl ((hmap4.out.alloc _).alloc _) (by unfold maxLen; omega) _ _ _ rfl rfl hkey _ [] unitElem_mk ?_; intro w6 hmap6 hg6
               have hz6 := hg6.size
               simp at hz6
               have q6 := grown_block hg6 (blk_one w4 _ _) (fun h => by cases h; omega)
               obtain ⟨q60, q61⟩ := two q6
               have hown6 := own_grown ((hown4.out.alloc _).alloc _) hg6 (fun k h1 h2 => by cases h2; exact absurd h1 (own_ne_lt hown4.out (Nat.lt_succ_self M)))
               have hB6 := Lib.hid (((hB4.out.alloc hB4.out.size _).alloc (by have := hB4.out.size; simp; omega) _).grown hg6 (by have := hB4.out.size; simp; omega) (fun k hk => by cases hk; exact hM1))
               replace hmap6 := Lib.hid hmap6
               replace hown6 := Lib.hid hown6
               clear hg6 q6)
            | (at_builtin; refine wpList_app_new rfl (.tmp 48) (.tmp 50) rfl qpairEI rfl hown6.out rfl rfl rfl (by simp; exact ⟨rfl, rfl⟩) (by omega) (by omega) (by omega) ?_; intro v7 w7 hown7 hg7 hb7))
          refine (hun _).mono ?_
          rintro e w8 ⟨rfl, hb8⟩
          have hB8 := Lib.hid ((hB6.out.trans (hb7.mono (by omega))).trans (hb8.mono (by have := hB6.out.size; have := hb7.size; omega)))
          have hmap8 := Lib.hid ((map_ext (hmap6.out.kept hg7.out (Ne.symm (own_ne_lt hown6.out (Nat.lt_succ_self M)))) hb8).mono (show out.length + 1 ≤ (out ++ [p]).length by simp))
          have hown8 := Lib.hid (own_below hown7 hb8)
          clear hmap6 hown6 hB6 hown7 hg7 hb7 hb8
          go_wp2_with fail
          go_roundw
          case rel =>
            refine ⟨f, false, out ++ [p], j + te, j + te + Cl.gaps (l.drop (j + te)), by omega, by omega, by omega, by simp; omega, rfl, ?_, ?_, Lib.hid rfl, hp2, Lib.hid (fun _ => rfl), hB8.out⟩
            · have := hown8.out
              rw [List.length_append]
              simpa [qcells, hav] using this
            · rw [keySet_more]; exact hmap8.out
          case measure => simp only [strLen, bs_size, List.length_drop]; rw [hTln.out]; omega
end Go.Proofs.YtmmgfoepfapnkaaGreatDoor

namespace Go.Proofs.YtmmgfoepfapnkaaGreatDoor
open Go.RowKit

def kset (ks : List (List UInt8)) : DataW Unit := Maps.setOf (.agg []) (ks.map fun k => Lit.string k)
theorem kset_more (ks : List (List UInt8)) (k : List UInt8) : kset (ks ++ [k]) = (kset ks).put (.string k) (.agg []) := by
  unfold kset
  rw [List.map_append, List.map_cons, List.map_nil, Maps.setOf_snoc]
theorem kset_has (ks : List (List UInt8)) (k : List UInt8) : Maps.has (kset ks) (.string k) = decide (k ∈ ks) := by
  unfold kset
  rw [Maps.has_setOf _ _ _ (by intro x hx; obtain ⟨p, _, rfl⟩ := List.mem_map.1 hx; trivial), List.any_map, Bool.eq_iff_iff]
  simp only [List.any_eq_true, Function.comp, Lit.sameKey, decide_eq_true_eq]
  constructor
  · rintro ⟨x, hx, h⟩
    have : x = k := by simpa using h
    exact this ▸ hx
  · intro h
    exact ⟨k, h, by simp⟩
theorem str_key {k : List UInt8} (h : k.length ≤ 1000000000) : keyOf Tryz.prog 9 (.string (bs k)) = some (.string k) := WideMaps.keyOf_string_mk Tryz.underlying9 (by rw [bs_size]; unfold maxLen; omega)
end Go.Proofs.YtmmgfoepfapnkaaGreatDoor

namespace Go.Proofs.YtmmgfoepfapnkaaGreatDoor
open Go.RowKit

def Ck.pths (l : List Ck.Src) : List (List UInt8) := l.map (·.path)
theorem Ck.pths_at {l : List Ck.Src} {k : Nat} (hk : k < l.length) : Ck.pths (l.take (k + 1)) = Ck.pths (l.take k) ++ [l[k].path] := by
  unfold Ck.pths
  rw [List.take_succ_eq_append_getElem hk, List.map_append]; rfl
theorem Ck.badPath_at {l : List Ck.Src} {k : Nat} (hk : k < l.length) : Ck.badPath (Ck.pths (l.take k)) (l.drop k) = if l[k].path ∈ Ck.pths (l.take k) ∨ Ck.path l[k].path = false then ⟨12, l[k].path, 0, []⟩ else Ck.badPath (Ck.pths (l.take (k + 1))) (l.drop (k + 1)) := by
  rw [List.drop_eq_getElem_cons hk, Ck.badPath, Ck.pths_at hk]

set_option maxHeartbeats 2000000 in
set_option maxRecDepth 100000 in
theorem badPath_any (l : List Ck.Src) (css : List (List Value)) (A : Option Addr) (c : Nat) (w : World) (h : SRow w w.heap.size A l.length l css) (hl : ∀ s ∈ l, s.path.length ≤ 1000000000) (hn : l.length ≤ 1000000) (hT : ATabs w) :
    Calls Tryz.prog 40 #[.slice A l.length c] w fun e w' => e = .returned (fltv (Ck.badPath [] l)) ∧ Below w.heap.size w w' := by
  have h0 := heap_alloc_new w (.cells #[.int .i64 0, .string ⟨#[]⟩, .int .i64 0, .string ⟨#[]⟩] 46)
  have hS := Lib.hid h
  replace hl := Lib.hid hl
  replace h0 := Lib.hid h0
  replace hT := Lib.hid hT
  have hmm := @run_makeMap Tryz.prog
  clear h
  go_enter Tryz.func40, Tryz.ntmps40
  go_wp2_with fail
  obtain ⟨wa, hwa⟩ : ∃ wa, w.alloc (.cells #[.int .i64 0, .string ⟨#[]⟩, .int .i64 0, .string ⟨#[]⟩] 46) = wa := ⟨_, rfl⟩
  have hba : Below w.heap.size w wa := by rw [← hwa]; exact ext_alloc _ _
  have hza : wa.heap.size = w.heap.size + 1 := by rw [← hwa]; simp
  rw [hwa] at h0 ⊢
  clear hwa
  have hSa := Lib.hid (hS.out.ext hba)
  replace hba := Lib.hid hba
  have hm0 : (wa.alloc (.map #[] 0)).ownsMap Tryz.prog 9 unitElem wa.heap.size 0 (kset (Ck.pths (l.take 0))) := World.ownsMap_made wa Tryz.prog 9 unitElem
  obtain ⟨M, hM⟩ : ∃ M, wa.heap.size = M := ⟨_, rfl⟩
  rw [hM] at hm0
  have hM1 : M = w.heap.size + 1 := by omega
  subst hM1
  go_loopw [11] (fun u wr => ∃ k : Nat, k ≤ l.length ∧ u = .int .i64 (k : Int) ∧ Hid (Ck.badPath (Ck.pths (l.take k)) (l.drop k) = Ck.badPath [] l) ∧ Hid (wr.ownsMap Tryz.prog 9 unitElem (w.heap.size + 1) k (kset (Ck.pths (l.take k)))) ∧ Hid (Below (w.heap.size + 1) wa wr)) (fun u _ => l.length - (intOf u).toNat)
  case atStart => exact ⟨0, by omega, rfl, Lib.hid rfl, Lib.hid hm0, Lib.hid (by rw [← hM]; exact ext_alloc _ _)⟩
  case round =>
    obtain ⟨k, hk, rfl, hst, hmap, hb⟩ := hrel
    have hbr : Below wa.heap.size wa wr := by rw [hM]; exact hb.out
    have hr0 := (keep h0.out hbr).1
    have hBr := Lib.hid (ext_trans hba.out hbr)
    have hgr : w.heap.size < wr.heap.size := (keep h0.out hbr).2
    have hMr := hmap.out.lt
    rcases Nat.lt_or_ge k l.length with hlt | hge
    · obtain ⟨b, o, rfl, hbb, hc⟩ := (hSa.out.ext hbr).src_at (by omega)
      obtain ⟨LA, lc, h1, h2, c0, c1⟩ := hc k hlt
      have hpl := hl.out _ (List.getElem_mem hlt)
      have hat := (Ck.badPath_at hlt).symm.trans hst.out
      have hks : kset (Ck.pths (l.take (k + 1))) = (kset (Ck.pths (l.take k))).put (.string l[k].path) (.agg []) := by
        rw [← kset_more, Ck.pths_at hlt]
      have hhas := kset_has (Ck.pths (l.take k)) l[k].path
      obtain ⟨x, hx⟩ : ∃ x, l[k] = x := ⟨_, rfl⟩
      rw [hx] at h1 h2 c0 c1 hpl hat hks hhas
      clear hx hc
      obtain ⟨path, data⟩ := x
      simp only at h1 h2 c0 c1 hpl hat hks hhas
      have hkey := str_key hpl
      have hfa := fun w => fault_any 12 0 path [] LA data.length lc w (by omega)
      change ∀ w, Calls Tryz.prog 60 #[.int .i64 12, .agg #[.string (bs path), .slice LA data.length lc], .int .i64 0, .string ⟨#[]⟩] w _ at hfa
      have hpa := fun w => path_any path w hpl
      obtain ⟨D, hD⟩ : ∃ D, kset (Ck.pths (l.take k)) = D := ⟨_, rfl⟩
      rw [hD] at hmap hks hhas
      obtain ⟨n, hn9⟩ : ∃ n, data.length = n := ⟨_, rfl⟩
      rw [hn9] at c1 hfa h1 h2
      have hd0 := ext_alloc wr (.cells #[.string (bs path), .slice LA n lc] 33)
      have hz0 : (wr.alloc (.cells #[.string (bs path), .slice LA n lc] 33)).heap.size = wr.heap.size + 1 := by simp
      have q0 := Lib.hid (heap_alloc_new wr (.cells #[.string (bs path), .slice LA n lc] 33))
      obtain ⟨tw, htw⟩ : ∃ t, decide (path ∈ Ck.pths (l.take k)) = t := ⟨_, rfl⟩
      rw [htw] at hhas
      replace hr0 := Lib.hid hr0
      replace hmap := Lib.hid hmap.out
      replace hks := Lib.hid hks
      replace hat := Lib.hid hat
      clear hst h1 h2 hbb hbr hD
      cases tw with
      | true =>
        have hfin : Hid (Ck.badPath [] l = ⟨12, path, 0, []⟩) := Lib.hid (by rw [← hat.out, if_pos (.inl (of_decide_eq_true htw))])
        clear htw
        go_wp2_with (at_lookup; refine wpList_lookup_own_unit _ rfl _ _ 93 rfl 9 94 strLaw Tryz.underlying93 (zeroUnit _) (w.heap.size + 1) k D rfl (hmap.out.alloc _) _ _ rfl hkey ?_; rw [hhas])
        refine (hfa _).mono ?_
        rintro e w2 ⟨rfl, hb2⟩
        have hbz := ext_trans (ext_trans hd0 (ext_alloc _ _)) hb2
        have hr2 := (keep hr0.out hbz).1
        obtain ⟨k0, k1, k2, k3⟩ := four hr2
        have kf := blk_free hr2
        have hB2 := Lib.hid (ext_trans hBr.out hbz)
        clear hr2 hb2 hd0 hbz hfa hpa
        go_wp2_with fail
        exact bodyPost_ret (v := fltv ⟨12, path, 0, []⟩) (by rw [results_cell1 rfl]; go_simp <;> rfl) rfl ⟨by rw [hfin.out], below_four hB2.out (Nat.le_refl _) _ _ _ _⟩
      | false =>
        have hno : path ∉ Ck.pths (l.take k) := of_decide_eq_false htw
        obtain ⟨pb, hpb⟩ : ∃ b, Ck.path path = b := ⟨_, rfl⟩
        rw [hpb] at hpa
        have hTr := Lib.hid (fun w2 (hb2 : Below (wr.alloc (.cells #[.string (bs path), .slice LA n lc] 33)).heap.size (wr.alloc (.cells #[.string (bs path), .slice LA n lc] 33)) w2) => tabs_ext hT.out (ext_trans (ext_trans hBr.out hd0) hb2))
        replace hno := Lib.hid hno
        replace hpb := Lib.hid hpb
        clear htw
        go_wp2_with (at_lookup; refine wpList_lookup_own_unit _ rfl _ _ 93 rfl 9 94 strLaw Tryz.underlying93 (zeroUnit _) (w.heap.size + 1) k D rfl (hmap.out.alloc _) _ _ rfl hkey ?_; rw [hhas])
        refine (hpa _ (hTr.out _ (ext_alloc _ _))).mono ?_
        rintro e w2 ⟨rfl, hb2⟩
        have hbz := ext_trans (ext_trans hd0 (ext_alloc _ _)) hb2
        have hr2 := Lib.hid (keep hr0.out hbz).1
        have hB2 := Lib.hid (ext_trans hBr.out hbz)
        have q2 := (keep q0.out (ext_trans (ext_alloc _ _) hb2)).1
        have s0 := blk_cell q2 0
        have s1 := blk_cell q2 1
        have hm2 := Lib.hid (map_ext hmap.out hbz)
        have hz2 := hbz.size
        have hb3 := Lib.hid (hb.out.trans (hbz.mono (by omega)))
        clear hpa hTr hb2 hbz hd0 q2
        cases pb with
        | false =>
          have hfin : Hid (Ck.badPath [] l = ⟨12, path, 0, []⟩) := Lib.hid (by rw [← hat.out, if_pos (.inr hpb.out)])
          go_wp2_with fail
          refine (hfa _).mono ?_
          rintro e w3 ⟨rfl, hb4⟩
          have hr3 := (keep hr2.out hb4).1
          obtain ⟨k0, k1, k2, k3⟩ := four hr3
          have kf := blk_free hr3
          have hB4 := Lib.hid (ext_trans hB2.out hb4)
          clear hr3 hb4 hfa
          go_wp2_with fail
          exact bodyPost_ret (v := fltv ⟨12, path, 0, []⟩) (by rw [results_cell1 rfl]; go_simp <;> rfl) rfl ⟨by rw [hfin.out], below_four hB4.out (Nat.le_refl _) _ _ _ _⟩
        | true =>
          have hst2 : Hid (Ck.badPath (Ck.pths (l.take (k + 1))) (l.drop (k + 1)) = Ck.badPath [] l) := Lib.hid (by rw [← hat.out, if_neg (fun h => h.elim hno.out (fun e => by rw [hpb.out] at e; cases e))])
          go_wp2_with (at_mapUpdate; refine wpList_mapUpdate_own _ rfl _ _ _ 93 rfl 9 94 strLaw Tryz.underlying93 (unitElem (H := Unit)) (w.heap.size + 1) k _ rfl hm2.out (by unfold maxLen; omega) _ _ _ rfl rfl hkey _ [] unitElem_mk ?_; intro w6 hmap6 hg6)
          have hb6 := Lib.hid (hb3.out.grown hg6 (by omega) (fun k hk => by cases hk; exact Nat.le_refl _))
          go_roundw
          case rel => exact ⟨k + 1, by omega, by go_num, hst2, Lib.hid (by rw [hks.out]; exact hmap6), hb6⟩
          case measure => simp [intOf]; omega
    · have hfin : Hid (Ck.badPath [] l = Ck.noF) := Lib.hid (by rw [← hst.out, List.drop_eq_nil_of_le (by omega)]; rfl)
      obtain ⟨k0, k1, k2, k3⟩ := four hr0
      have kf := blk_free hr0
      have hkl : ¬ (k : Int) < (l.length : Int) := by omega
      clear hr0
      go_wp2_with fail
      exact bodyPost_ret (v := fltv ⟨0, [], 0, []⟩) (by rw [results_cell1 rfl]; go_simp <;> rfl) rfl ⟨by rw [hfin.out]; rfl, below_four hBr.out (Nat.le_refl _) _ _ _ _⟩
end Go.Proofs.YtmmgfoepfapnkaaGreatDoor

namespace Go.Proofs.YtmmgfoepfapnkaaGreatDoor
open Go.RowKit
attribute [local go_sem] canOp readsAs readUpon

/-- a row of Defs of its own, their lines in older blocks -/
def ShD (w : World) (B : Nat) (v : Value) (ds : List Ck.Def) : Prop := ∃ css, w.ownsRow B 52 12 v ds.length css.flatten ∧ Els (DC w (fun b => b < B)) ds css
theorem ShD.nil (w : World) (B : Nat) : ShD w B (.slice none 0 0) [] := ⟨[], World.ownsRow_nil _ _ _ _, rfl⟩
theorem ShD.ext {w w' : World} {B : Nat} {v : Value} {ds : List Ck.Def} (h : ShD w B v ds) (hb : Below w.heap.size w w') (hB : B ≤ w.heap.size) : ShD w' B v ds := by
  obtain ⟨css, h1, h2⟩ := h
  exact ⟨css, own_below h1 hb, h2.mono fun _ _ hd => hd.frame (fun b hq => hb.block b (by omega)) (fun b hq => hq)⟩
theorem ShD.kept {w w' : World} {B g : Nat} {v : Value} {ds : List Ck.Def} (h : ShD w B v ds) (hg : w.grownBy w' (some g)) (hB : B ≤ w.heap.size) (hgB : B ≤ g) (hne : v.ownBlock ≠ some g) : ShD w' B v ds := by
  obtain ⟨css, h1, h2⟩ := h
  exact ⟨css, World.ownsRow.kept h1 hg (.inr hne), h2.mono fun _ _ hd => hd.frame (fun b hq => hg.block b (by omega) (fun e => by cases e; omega)) (fun b hq => hq)⟩
theorem ShD.row {w : World} {B c n : Nat} {A : Option Addr} {ds : List Ck.Def} (h : ShD w B (.slice A n c) ds) (hB : B ≤ w.heap.size) : ∃ css, DRow w w.heap.size A ds.length ds css ∧ n = ds.length := by
  obtain ⟨css, h1, h2⟩ := h
  have hn : n = ds.length := by
    rcases h1.2 with ⟨e, e2⟩ | ⟨g, cap, cur, e, _⟩
    · injection e with e3 e4; rw [e2]; exact e4
    · injection e
  subst hn
  exact ⟨css, ⟨rfl, Row.own h1, h2.mono fun _ _ hd => hd.frame (fun _ _ => rfl) (fun b hq => by omega)⟩, rfl⟩
/-- a Def more -/
theorem ShD.more {w w' : World} {B c : Nat} {css : List (List Value)} {v' : Value} {ds : List Ck.Def} {d : Ck.Def} {A : Option Addr} {xs : List Value} (h : Els (DC w (fun b => b < B)) ds css) (hxs : xs = css.flatten)
    (hown : w'.ownsRow B 52 12 v' (ds.length + 1) (xs ++ dcells d (.slice A d.lines.length c))) (hb : Below B w w')
    (hl : RowE w (fun b => b < B) 1 A d.lines.length (scells d.lines)) (hlc : d.lines.length ≤ c) : ShD w' B v' (ds ++ [d]) := by
  subst hxs
  have hf : ∀ b, b < B → w'.heap[b]? = w.heap[b]? := fun b hq => hb.block b hq
  refine ⟨css ++ [dcells d (.slice A d.lines.length c)], ?_, Els.snoc (h.mono fun _ _ hd => hd.frame hf (fun _ hq => hq)) ⟨A, c, rfl, hlc, hl.frame hf (fun _ hq => hq)⟩⟩
  rw [List.flatten_append, List.length_append]
  simpa using hown
def Ck.kys (l : List Ck.Def) : List (List UInt8) := l.map (·.key)
theorem Ck.firsts_len : ∀ (l : List Ck.Def) (seen : List (List UInt8)), (Ck.firsts seen l).length ≤ l.length
  | [], _ => Nat.le_refl _
  | d :: r, seen => by
    rw [Ck.firsts]
    split
    · have := Ck.firsts_len r seen; simp only [List.length_cons]; omega
    · have := Ck.firsts_len r (seen ++ [d.key]); simp only [List.length_cons]; omega
theorem Ck.firsts_mem : ∀ (l : List Ck.Def) (seen : List (List UInt8)), ∀ d ∈ Ck.firsts seen l, d ∈ l
  | [], _, d, h => h
  | x :: r, seen, d, h => by
    rw [Ck.firsts] at h
    split at h
    · exact List.mem_cons_of_mem _ (Ck.firsts_mem r seen d h)
    · rcases List.mem_cons.1 h with rfl | h
      · exact List.mem_cons_self
      · exact List.mem_cons_of_mem _ (Ck.firsts_mem r _ d h)
theorem Ck.firsts_at {ds out : List Ck.Def} {k : Nat} (hk : k < ds.length) : out ++ Ck.firsts (Ck.kys out) (ds.drop k) = if ds[k].key ∈ Ck.kys out then out ++ Ck.firsts (Ck.kys out) (ds.drop (k + 1)) else (out ++ [ds[k]]) ++ Ck.firsts (Ck.kys (out ++ [ds[k]])) (ds.drop (k + 1)) := by
  rw [List.drop_eq_getElem_cons hk, Ck.firsts]
  split
  · rfl
  · rw [List.append_assoc]
    simp only [Ck.kys, List.map_append, List.map_cons, List.map_nil, List.singleton_append]
theorem Ck.kys_more (out : List Ck.Def) (d : Ck.Def) : Ck.kys (out ++ [d]) = Ck.kys out ++ [d.key] := by unfold Ck.kys; rw [List.map_append]; rfl

set_option maxHeartbeats 4000000 in
set_option maxRecDepth 100000 in
theorem firsts_any (ds : List Ck.Def) (css : List (List Value)) (A : Option Addr) (c : Nat) (w : World) (h : DRow w w.heap.size A ds.length ds css) (hd : ∀ d ∈ ds, DOk d) (hn : ds.length ≤ 1000000000) :
    Calls Tryz.prog 35 #[.slice A ds.length c] w fun e w' => ∃ v, e = .returned v ∧ ShD w' w.heap.size v (Ck.firsts [] ds) ∧ Below w.heap.size w w' := by
  have hS := Lib.hid h
  replace hd := Lib.hid hd
  obtain ⟨n, hn9⟩ : ∃ n, ds.length = n := ⟨_, rfl⟩
  rw [hn9] at hn ⊢
  replace hn9 := Lib.hid hn9
  have hmm := @run_makeMap Tryz.prog
  have hm0 : (w.alloc (.map #[] 0)).ownsMap Tryz.prog 9 unitElem w.heap.size 0 (kset (Ck.kys [])) := World.ownsMap_made w Tryz.prog 9 unitElem
  clear h
  go_enter Tryz.func35, Tryz.ntmps35
  go_wp2_with fail
  go_loopw [3, 12] (fun v u wr => ∃ (k : Nat) (out : List Ck.Def), k ≤ n ∧ out.length ≤ k ∧ u = .int .i64 (k : Int) ∧ Hid (out ++ Ck.firsts (Ck.kys out) (ds.drop k) = Ck.firsts [] ds) ∧ Hid (ShD wr w.heap.size v out) ∧ Hid (v.ownBlock ≠ some w.heap.size) ∧ Hid (wr.ownsMap Tryz.prog 9 unitElem w.heap.size out.length (kset (Ck.kys out))) ∧ Hid (Below w.heap.size w wr)) (fun _ u _ => n - (intOf u).toNat)
  case atStart => exact ⟨0, [], by omega, by simp, rfl, Lib.hid rfl, Lib.hid (ShD.nil _ _), Lib.hid (by intro e; cases e), Lib.hid hm0, Lib.hid (ext_alloc _ _)⟩
  case round =>
    obtain ⟨k, out, hk, hok, rfl, hst, hown, hne, hmap, hb⟩ := hrel
    have hsz := hb.out.size
    have hmlt := hmap.out.lt
    obtain ⟨css1, ho1, he1⟩ := hown.out
    obtain ⟨vA, vc, rfl, hvc⟩ := own_shape ho1
    rcases Nat.lt_or_ge k n with hlt | hge
    · have hlt' : k < ds.length := by rw [hn9.out]; exact hlt
      obtain ⟨b, o, rfl, hbb, hc⟩ := (hS.out.keep hb.out (Nat.le_refl _)).def_at (by omega)
      obtain ⟨LA, lc, h1, h2, hcc⟩ := hc k hlt'
      have hdk := hd.out _ (List.getElem_mem hlt')
      have hoa := (Ck.firsts_at (out := out) hlt').symm.trans hst.out
      have hhas := kset_has (Ck.kys out) ds[k].key
      have hkm := Ck.kys_more out ds[k]
      have hks := kset_more (Ck.kys out) ds[k].key
      obtain ⟨d, hde⟩ : ∃ d, ds[k] = d := ⟨_, rfl⟩
      rw [hde] at h1 h2 hcc hdk hoa hhas hkm hks
      obtain ⟨ln, hln⟩ : ∃ ln, d.lines.length = ln := ⟨_, rfl⟩
      rw [hln] at hcc h1 h2
      have c0 := hcc 0 _ rfl
      have c1 := hcc 1 _ rfl
      have c2 := hcc 2 _ rfl
      have c3 := hcc 3 _ rfl
      have c4 := hcc 4 _ rfl
      have c5 := hcc 5 _ rfl
      have c6 := hcc 6 _ rfl
      have c7 := hcc 7 _ rfl
      have c8 := hcc 8 _ rfl
      have c9 := hcc 9 _ rfl
      have c10 := hcc 10 _ rfl
      have c11 := hcc 11 _ rfl
      rw [Nat.add_zero] at c0
      have hkey := str_key hdk.key
      have hx1 := ext_alloc wr (.cells (darr d (.slice LA ln lc)) 52)
      have q1 := heap_alloc_new wr (.cells (darr d (.slice LA ln lc)) 52)
      obtain ⟨D, hD⟩ : ∃ D, kset (Ck.kys out) = D := ⟨_, rfl⟩
      rw [hD] at hmap hhas hks
      replace hD := Lib.hid hD
      obtain ⟨tw, htw⟩ : ∃ t, decide (d.key ∈ Ck.kys out) = t := ⟨_, rfl⟩
      rw [htw] at hhas
      have hm1 := Lib.hid (map_ext hmap.out hx1)
      have hx2 := ext_trans hx1 (ext_alloc (wr.alloc (.cells (darr d (.slice LA ln lc)) 52)) (.cells #[] 94))
      have hs2 := Lib.hid (hown.out.ext hx2 hsz)
      have hm2 := Lib.hid (map_ext hmap.out hx2)
      have hb2 := Lib.hid (hb.out.trans (hx2.mono hsz))
      have hz2 := hx2.size
      obtain ⟨m, hm⟩ : ∃ m, out.length = m := ⟨_, rfl⟩
      rw [hm] at ho1 hvc hok hmap hm1 hm2 hs2 hne ⊢
      have hm9 : m ≤ 1000000000 := by omega
      replace q1 := Lib.hid q1
      replace hx2 := Lib.hid hx2
      replace h2 := Lib.hid h2
      replace hdk := Lib.hid hdk
      replace hoa := Lib.hid hoa
      replace hkm := Lib.hid hkm
      replace hks := Lib.hid hks
      replace hln := Lib.hid hln
      replace hm := Lib.hid hm
      replace ho1 := Lib.hid ho1
      replace he1 := Lib.hid he1
      clear hc hcc hde hst hown hmap hx1
      cases tw with
      | true =>
        have hst2 : Hid (out ++ Ck.firsts (Ck.kys out) (ds.drop (k + 1)) = Ck.firsts [] ds) := Lib.hid (by rw [← hoa.out, if_pos (of_decide_eq_true htw)])
        clear htw
        go_wp2_with (at_lookup; refine wpList_lookup_own_unit _ rfl _ _ 93 rfl 9 94 strLaw Tryz.underlying93 (zeroUnit _) w.heap.size m D rfl hm1.out _ _ rfl hkey ?_; rw [hhas])
        go_roundw
        case rel => exact ⟨k + 1, out, by omega, by rw [hm.out]; omega, by go_num, hst2, hs2, hne, Lib.hid (by rw [hm.out, hD.out]; exact hm2.out), hb2⟩
        case measure => simp [intOf]; omega
      | false =>
        have hst2 : Hid ((out ++ [d]) ++ Ck.firsts (Ck.kys (out ++ [d])) (ds.drop (k + 1)) = Ck.firsts [] ds) := Lib.hid (by rw [← hoa.out, if_neg (of_decide_eq_false htw)])
        clear htw
        go_upto_region 9 with (first
          | (at_lookup; refine wpList_lookup_own_unit _ rfl _ _ 93 rfl 9 94 strLaw Tryz.underlying93 (zeroUnit _) w.heap.size m D rfl hm1.out _ _ rfl hkey ?_; rw [hhas])
          | (at_mapUpdate; refine wpList_mapUpdate_own _ rfl _ _ _ 93 rfl 9 94 strLaw Tryz.underlying93 (unitElem (H := Unit)) w.heap.size m _ rfl hm2.out (by unfold maxLen; omega) _ _ _ rfl rfl hkey _ [] unitElem_mk ?_; intro w6 hmap6 hg6))
        have q6 := grown_blk hg6 (keep q1.out (ext_alloc _ _)).1 (fun h => by injection h with h; omega)
        have d0 := cell12 q6 (j := 0) rfl
        have d1 := cell12 q6 (j := 1) rfl
        have d2 := cell12 q6 (j := 2) rfl
        have d3 := cell12 q6 (j := 3) rfl
        have d4 := cell12 q6 (j := 4) rfl
        have d5 := cell12 q6 (j := 5) rfl
        have d6 := cell12 q6 (j := 6) rfl
        have d7 := cell12 q6 (j := 7) rfl
        have d8 := cell12 q6 (j := 8) rfl
        have d9 := cell12 q6 (j := 9) rfl
        have d10 := cell12 q6 (j := 10) rfl
        have d11 := cell12 q6 (j := 11) rfl
        have hs6 := hs2.out.kept hg6 (by omega) (Nat.le_refl _) hne.out
        have hB6 := Lib.hid (hb2.out.grown hg6 (by omega) (fun k hk => by cases hk; exact Nat.le_refl _))
        obtain ⟨css6, ho6, he6⟩ := hs6
        rw [hm.out] at ho6
        have hl6 : RowE w6 (fun b => b < w.heap.size) 1 LA ln (scells d.lines) := h2.out.q.frame (fun b (hq : b < w.heap.size) => (hg6.block b (Nat.lt_of_lt_of_le (Nat.lt_of_lt_of_le hq hsz) hz2) (fun e => by injection e with e; omega)).trans (hx2.out.block b (by omega))) (fun _ hq => hq)
        have hz6 := hB6.out.size
        have hz8 := hmap6.lt
        replace hmap6 := Lib.hid hmap6
        replace ho6 := Lib.hid ho6
        replace he6 := Lib.hid he6
        replace hl6 := Lib.hid hl6
        replace q6 := Lib.hid q6
        clear hg6
        go_wp2_with (at_builtin; refine wpList_app_big rfl (.tmp 29) (.tmp 31) rfl defEI rfl ho6.out rfl rfl rfl (darr_one d LA ln lc) (by omega) (by omega) (by omega) ?_; intro v9 w9 hown9 hg9 hb9 hat9)
        have hfin : Hid (ShD w9 w.heap.size v9 (out ++ [d])) := Lib.hid (by
          have hoo := hown9
          rw [← hm.out, ← hln.out] at hoo
          exact ShD.more he6.out rfl hoo hb9 (by rw [hln.out]; exact hl6.out) (by rw [hln.out]; exact h1))
        have hne9 : Hid (v9.ownBlock ≠ some w.heap.size) := Lib.hid (fun e => by
          rcases hat9.out _ e with e2 | e2
          · exact hne.out e2
          · omega)
        have hmap9 := Lib.hid (hmap6.out.kept hg9.out (Ne.symm hne.out))
        go_roundw
        case rel => exact ⟨k + 1, out ++ [d], by omega, by rw [List.length_append, hm.out]; simp; omega, by go_num, hst2, hfin, hne9, Lib.hid (by rw [hkm.out, hks.out, List.length_append, hm.out]; exact hmap9.out), Lib.hid (hB6.out.trans hb9)⟩
        case measure => simp [intOf]; omega
    · obtain rfl : k = n := by omega
      have hkn : ¬ (k : Int) < (k : Int) := by omega
      have hfin : out = Ck.firsts [] ds := by
        have := hst.out
        rwa [List.drop_eq_nil_of_le (by rw [hn9.out]; exact Nat.le_refl _), Ck.firsts, List.append_nil] at this
      have hown2 := hown.out
      rw [hfin] at hown2
      replace hfin := Lib.hid hfin
      replace hown2 := Lib.hid hown2
      replace ho1 := Lib.hid ho1
      replace he1 := Lib.hid he1
      rw [hfin.out]
      go_wp2_with fail
      go_returns
      exact ⟨_, rfl, hown2.out, hb.out⟩

set_option maxHeartbeats 4000000 in
set_option maxRecDepth 100000 in
theorem keysOf_any (ds : List Ck.Def) (css : List (List Value)) (A : Option Addr) (c : Nat) (w : World) (h : DRow w w.heap.size A ds.length ds css) (hd : ∀ d ∈ ds, DOk d) (hn : ds.length ≤ 1000000000) :
    Calls Tryz.prog 34 #[.slice A ds.length c] w fun e w' => ∃ v, e = .returned v ∧ w'.ownsRow w.heap.size 9 1 v (Ck.kys ds).length (scells (Ck.kys ds)) ∧ Below w.heap.size w w' := by
  have hS := Lib.hid h
  replace hd := Lib.hid hd
  have hkl : (Ck.kys ds).length = ds.length := by unfold Ck.kys; rw [List.length_map]
  obtain ⟨n, hn9⟩ : ∃ n, ds.length = n := ⟨_, rfl⟩
  rw [hn9] at hn hkl ⊢
  rw [hkl]
  replace hn9 := Lib.hid hn9
  clear h
  go_enter Tryz.func34, Tryz.ntmps34
  go_wp2_with fail
  go_loopw [3, 8] (fun v u wr => ∃ k : Nat, k ≤ n ∧ u = .int .i64 (k : Int) ∧ Hid (wr.ownsRow w.heap.size 9 1 v k (scells (Ck.kys (ds.take k)))) ∧ Hid (Below w.heap.size w wr)) (fun _ u _ => n - (intOf u).toNat)
  case atStart => exact ⟨0, by omega, rfl, Lib.hid (World.ownsRow_nil _ _ _ _), Lib.hid (Below.refl _ _)⟩
  case round =>
    obtain ⟨k, hk, rfl, hown, hb⟩ := hrel
    have hsz := hb.out.size
    obtain ⟨vA, vc, rfl, hvc⟩ := own_shape hown.out
    rcases Nat.lt_or_ge k n with hlt | hge
    · have hlt' : k < ds.length := by rw [hn9.out]; exact hlt
      obtain ⟨b, o, rfl, hbb, hc⟩ := (hS.out.keep hb.out (Nat.le_refl _)).def_at (by omega)
      obtain ⟨LA, lc, h1, h2, hcc⟩ := hc k hlt'
      have hdk := hd.out _ (List.getElem_mem hlt')
      have hst : Hid (scells (Ck.kys (ds.take k)) ++ [.string (bs ds[k].key)] = scells (Ck.kys (ds.take (k + 1)))) := Lib.hid (by
        rw [List.take_succ_eq_append_getElem hlt', Ck.kys_more]; unfold scells; rw [List.map_append]; rfl)
      obtain ⟨d, hde⟩ : ∃ d, ds[k] = d := ⟨_, rfl⟩
      rw [hde] at h1 h2 hcc hdk hst
      obtain ⟨ln, hln⟩ : ∃ ln, d.lines.length = ln := ⟨_, rfl⟩
      rw [hln] at hcc h1 h2
      have c0 := hcc 0 _ rfl
      have c1 := hcc 1 _ rfl
      have c2 := hcc 2 _ rfl
      have c3 := hcc 3 _ rfl
      have c4 := hcc 4 _ rfl
      have c5 := hcc 5 _ rfl
      have c6 := hcc 6 _ rfl
      have c7 := hcc 7 _ rfl
      have c8 := hcc 8 _ rfl
      have c9 := hcc 9 _ rfl
      have c10 := hcc 10 _ rfl
      have c11 := hcc 11 _ rfl
      rw [Nat.add_zero] at c0
      have hx1 := ext_alloc wr (.cells (darr d (.slice LA ln lc)) 52)
      have hcl := fun w => at_clone d.key w (by have := hdk.key; omega)
      replace hdk := Lib.hid hdk
      replace h2 := Lib.hid h2
      replace hln := Lib.hid hln
      clear hc hcc hde
      go_wp2_with fail
      refine (hcl _).mono ?_
      rintro e w2 ⟨rfl, hb2⟩
      have hbz := ext_trans hx1 hb2
      have hown2 := Lib.hid (own_below hown.out hbz)
      have hb3 := Lib.hid (hb.out.trans (hbz.mono hsz))
      have hz3 := hb3.out.size
      clear hx1 hb2 hbz hcl c0 c1 c2 c3 c4 c5 c6 c7 c8 c9 c10 c11
      go_wp2_with (at_builtin; refine wpList_app_new rfl (.tmp 12) (.tmp 16) rfl textEI rfl hown2.out rfl rfl rfl (by intro u hu; simp only [List.mem_singleton] at hu; subst hu; rfl) (by omega) (by omega) (by omega) ?_; intro v9 w9 hown9 hg9 hb9)
      go_roundw
      case rel => exact ⟨k + 1, by omega, by go_num, Lib.hid (by rw [← hst.out]; exact hown9), Lib.hid (hb3.out.trans hb9)⟩
      case measure => simp [intOf]; omega
    · obtain rfl : k = n := by omega
      have hkn : ¬ (k : Int) < (k : Int) := by omega
      have hown2 := hown.out
      rw [List.take_of_length_le (by rw [hn9.out]; exact Nat.le_refl _)] at hown2
      go_wp2_with fail
      go_returns
      exact ⟨_, rfl, hown2, hb.out⟩

set_option maxHeartbeats 4000000 in
set_option maxRecDepth 100000 in
theorem keys_any (ds : List Ck.Def) (css : List (List Value)) (A : Option Addr) (c : Nat) (w : World) (h : DRow w w.heap.size A ds.length ds css) (hd : ∀ d ∈ ds, DOk d) (hn : ds.length ≤ 1000000000) :
    Calls Tryz.prog 16 #[.slice A ds.length c] w fun e w' => ∃ v, e = .returned v ∧ w'.ownsRow w.heap.size 9 1 v (Ck.keys ds).length (scells (Ck.keys ds)) ∧ Below w.heap.size w w' := by
  have hf := firsts_any ds css A c w h hd hn
  have hfl := Ck.firsts_len ds []
  have hfd : ∀ d ∈ Ck.firsts [] ds, DOk d := fun d h => hd d (Ck.firsts_mem ds [] d h)
  have hk := fun css A c w h => keysOf_any (Ck.firsts [] ds) css A c w h hfd (by omega)
  replace hd := Lib.hid hd
  replace hfd := Lib.hid hfd
  replace h := Lib.hid h
  go_enter Tryz.func16, Tryz.ntmps16
  go_wp2_with fail
  refine hf.mono ?_
  rintro e w1 ⟨v, rfl, hown, hb1⟩
  obtain ⟨vA, n1, vc, rfl⟩ : ∃ A n c, v = .slice A n c := by
    obtain ⟨css1, ho1, _⟩ := hown
    obtain ⟨A, c, e, _⟩ := own_shape ho1
    exact ⟨A, _, c, e⟩
  obtain ⟨css1, hrow, rfl⟩ := hown.row hb1.size
  have hk1 := hk css1 vA vc w1 hrow
  have hb1' := Lib.hid hb1
  clear hk hf hown hrow hb1
  go_wp2_with fail
  refine hk1.mono ?_
  rintro e w2 ⟨v2, rfl, hown2, hb2⟩
  have hB := Lib.hid (ext_trans hb1'.out hb2)
  replace hown2 := Lib.hid (own_base hown2 hb1'.out.size)
  clear hb2
  go_wp2_with fail
  go_ret
  exact ⟨_, rfl, hown2.out, hB.out⟩
end Go.Proofs.YtmmgfoepfapnkaaGreatDoor

namespace Go.Proofs.YtmmgfoepfapnkaaGreatDoor
open Go.RowKit
attribute [local go_sem] canOp readsAs readUpon

theorem Ck.filt_at {ds : List Ck.Def} {k : Nat} (hk : k < ds.length) (p : Ck.Def → Bool) : (ds.take (k + 1)).filter p = (ds.take k).filter p ++ if p ds[k] = true then [ds[k]] else [] := by
  rw [List.take_succ_eq_append_getElem hk, List.filter_append]
  congr 1
  by_cases h : p ds[k] = true
  · rw [if_pos h, List.filter_cons_of_pos h, List.filter_nil]
  · rw [if_neg h, List.filter_cons_of_neg h, List.filter_nil]

set_option maxHeartbeats 4000000 in
set_option maxRecDepth 100000 in
theorem files_any (ds : List Ck.Def) (css : List (List Value)) (A : Option Addr) (c : Nat) (w : World) (h : DRow w w.heap.size A ds.length ds css) (hd : ∀ d ∈ ds, DOk d) (hn : ds.length ≤ 1000000000) :
    Calls Tryz.prog 18 #[.slice A ds.length c] w fun e w' => ∃ v, e = .returned v ∧ w'.ownsRow w.heap.size 9 1 v (Ck.files ds).length (scells (Ck.files ds)) ∧ Below w.heap.size w w' := by
  have hf := firsts_any ds css A c w h hd hn
  have hfl := Ck.firsts_len ds []
  have hfd : ∀ d ∈ Ck.firsts [] ds, DOk d := fun d h => hd d (Ck.firsts_mem ds [] d h)
  have hfi : Ck.files ds = Ck.kys ((Ck.firsts [] ds).filter fun d => Ck.isF d.attr) := rfl
  rw [hfi]
  obtain ⟨fs, hfs⟩ : ∃ fs, Ck.firsts [] ds = fs := ⟨_, rfl⟩
  rw [hfs] at hf hfl hfd ⊢
  obtain ⟨p, hp⟩ : ∃ p : Ck.Def → Bool, (fun d => Ck.isF d.attr) = p := ⟨_, rfl⟩
  have hpd : ∀ d : Ck.Def, Ck.isF d.attr = p d := fun d => by rw [← hp]
  rw [hp]
  have hk := fun css A c w h => keysOf_any (fs.filter p) css A c w h (fun d hd => hfd d (List.mem_filter.1 hd).1) (by have := List.length_filter_le p fs; omega)
  replace hd := Lib.hid hd
  replace hfd := Lib.hid hfd
  replace h := Lib.hid h
  replace hpd := Lib.hid hpd
  replace hk := Lib.hid hk
  clear hfi hfs hp
  go_enter Tryz.func18, Tryz.ntmps18
  go_wp2_with fail
  refine hf.mono ?_
  rintro e w1 ⟨v, rfl, hown, hb1⟩
  obtain ⟨fA, n1, fc, rfl⟩ : ∃ A n c, v = .slice A n c := by
    obtain ⟨css1, ho1, _⟩ := hown
    obtain ⟨A, c, e, _⟩ := own_shape ho1
    exact ⟨A, _, c, e⟩
  obtain ⟨css1, hrow, rfl⟩ := hown.row hb1.size
  obtain ⟨n, hn9⟩ : ∃ n, fs.length = n := ⟨_, rfl⟩
  have hS := Lib.hid hrow
  rw [hn9] at hS hfl ⊢
  replace hn9 := Lib.hid hn9
  have hsz1 := hb1.size
  replace hb1 := Lib.hid hb1
  clear hown hrow hf
  go_wp2_with fail
  go_loopw [3, 9] (fun v u wr => ∃ k : Nat, k ≤ n ∧ u = .int .i64 (k : Int) ∧ Hid (ShD wr w1.heap.size v ((fs.take k).filter p)) ∧ Hid (Below w1.heap.size w1 wr)) (fun _ u _ => n - (intOf u).toNat)
  case atStart => exact ⟨0, by omega, rfl, Lib.hid (ShD.nil _ _), Lib.hid (Below.refl _ _)⟩
  case round =>
    obtain ⟨k, hk9, rfl, hown, hb⟩ := hrel
    have hsz := hb.out.size
    obtain ⟨css2, ho1, he1⟩ := hown.out
    obtain ⟨vA, vc, rfl, hvc⟩ := own_shape ho1
    have hol : ((fs.take k).filter p).length ≤ k := by have := List.length_filter_le p (fs.take k); rw [List.length_take] at this; omega
    rcases Nat.lt_or_ge k n with hlt | hge
    · have hlt' : k < fs.length := by rw [hn9.out]; exact hlt
      obtain ⟨b, o, rfl, hbb, hc⟩ := (hS.out.keep hb.out (Nat.le_refl _)).def_at (by omega)
      obtain ⟨LA, lc, h1, h2, hcc⟩ := hc k hlt'
      have hfa := Ck.filt_at hlt' p
      have hpk := hpd.out fs[k]
      obtain ⟨d, hde⟩ : ∃ d, fs[k] = d := ⟨_, rfl⟩
      rw [hde] at h1 h2 hcc hfa hpk
      obtain ⟨ln, hln⟩ : ∃ ln, d.lines.length = ln := ⟨_, rfl⟩
      rw [hln] at hcc h1 h2
      have c0 := hcc 0 _ rfl
      have c1 := hcc 1 _ rfl
      have c2 := hcc 2 _ rfl
      have c3 := hcc 3 _ rfl
      have c4 := hcc 4 _ rfl
      have c5 := hcc 5 _ rfl
      have c6 := hcc 6 _ rfl
      have c7 := hcc 7 _ rfl
      have c8 := hcc 8 _ rfl
      have c9 := hcc 9 _ rfl
      have c10 := hcc 10 _ rfl
      have c11 := hcc 11 _ rfl
      rw [Nat.add_zero] at c0
      have hx1 := ext_alloc wr (.cells (darr d (.slice LA ln lc)) 52)
      have q1 := heap_alloc_new wr (.cells (darr d (.slice LA ln lc)) 52)
      have hof := fun w => ofFile_any d LA ln lc w
      rw [hpk] at hof
      obtain ⟨m, hm⟩ : ∃ m, ((fs.take k).filter p).length = m := ⟨_, rfl⟩
      rw [hm] at ho1 hvc hol hown ⊢
      have hm9 : m ≤ 1000000000 := by omega
      obtain ⟨y, hy⟩ : ∃ y, p d = y := ⟨_, rfl⟩
      rw [hy] at hof hfa
      replace q1 := Lib.hid q1
      replace h2 := Lib.hid h2
      replace hln := Lib.hid hln
      replace hm := Lib.hid hm
      replace ho1 := Lib.hid ho1
      replace he1 := Lib.hid he1
      replace hfa := Lib.hid hfa
      clear hc hcc hde hpk hy
      go_wp2_with fail
      refine (hof _).mono ?_
      rintro e w2 ⟨rfl, hb2⟩
      have hx2 := ext_trans hx1 hb2
      have q6 := (keep q1.out hb2).1
      have d0 := cell12 q6 (j := 0) rfl
      have d1 := cell12 q6 (j := 1) rfl
      have d2 := cell12 q6 (j := 2) rfl
      have d3 := cell12 q6 (j := 3) rfl
      have d4 := cell12 q6 (j := 4) rfl
      have d5 := cell12 q6 (j := 5) rfl
      have d6 := cell12 q6 (j := 6) rfl
      have d7 := cell12 q6 (j := 7) rfl
      have d8 := cell12 q6 (j := 8) rfl
      have d9 := cell12 q6 (j := 9) rfl
      have d10 := cell12 q6 (j := 10) rfl
      have d11 := cell12 q6 (j := 11) rfl
      have hown2 := Lib.hid (hown.out.ext hx2 hsz)
      have hbz := Lib.hid (hb.out.trans (hx2.mono hsz))
      have hz6 := hbz.out.size
      clear q6 hx1 hb2 hof c0 c1 c2 c3 c4 c5 c6 c7 c8 c9 c10 c11 q1
      cases y with
      | false =>
        go_wp2_with fail
        go_roundw
        case rel => exact ⟨k + 1, by omega, by go_num, Lib.hid (by rw [hfa.out, if_neg Bool.false_ne_true, List.append_nil]; exact hown2.out), hbz⟩
        case measure => simp [intOf]; omega
      | true =>
        have ho6 := Lib.hid (own_below ho1.out hx2)
        have he6 : Els (DC w2 (fun b => b < w1.heap.size)) ((fs.take k).filter p) css2 := he1.out.mono fun _ _ hd => hd.frame (fun b (hq : b < w1.heap.size) => hx2.block b (by omega)) (fun _ hq => hq)
        have hl6 : RowE w2 (fun b => b < w1.heap.size) 1 LA ln (scells d.lines) := h2.out.q.frame (fun b (hq : b < w1.heap.size) => hx2.block b (by omega)) (fun _ hq => hq)
        replace he6 := Lib.hid he6
        replace hl6 := Lib.hid hl6
        clear hx2
        go_wp2_with (at_builtin; refine wpList_app_big rfl (.tmp 15) (.tmp 17) rfl defEI rfl ho6.out rfl rfl rfl (darr_one d LA ln lc) (by omega) (by omega) (by omega) ?_; intro v9 w9 hown9 hg9 hb9 hat9)
        have hfin : Hid (ShD w9 w1.heap.size v9 ((fs.take (k + 1)).filter p)) := Lib.hid (by
          have hoo := hown9
          rw [hfa.out, if_pos trivial]
          rw [← hm.out, ← hln.out] at hoo
          exact ShD.more he6.out rfl hoo hb9 (by rw [hln.out]; exact hl6.out) (by rw [hln.out]; exact h1))
        go_roundw
        case rel => exact ⟨k + 1, by omega, by go_num, hfin, Lib.hid (hbz.out.trans hb9)⟩
        case measure => simp [intOf]; omega
    · obtain rfl : k = n := by omega
      have hkn : ¬ (k : Int) < (k : Int) := by omega
      have hown2 := hown.out
      have hft : (fs.take k).filter p = fs.filter p := by rw [List.take_of_length_le (by rw [hn9.out]; exact Nat.le_refl _)]
      obtain ⟨css3, hrow3, hn3⟩ := hown2.row hsz
      rw [hft] at hrow3 ⊢
      have hkk := hk.out css3 vA vc wr hrow3
      have hbw := Lib.hid (hb1.out.trans (hb.out.mono hsz1))
      replace hft := Lib.hid hft
      replace ho1 := Lib.hid ho1
      replace he1 := Lib.hid he1
      clear hown2 hrow3 hn3
      go_wp2_with fail
      refine hkk.mono ?_
      rintro e w2 ⟨v2, rfl, hown3, hb2⟩
      have hB := Lib.hid (ext_trans hbw.out hb2)
      replace hown3 := Lib.hid (own_base hown3 hbw.out.size)
      clear hb2 hkk
      go_wp2_with fail
      go_returns
      exact ⟨_, rfl, hown3.out, hB.out⟩
end Go.Proofs.YtmmgfoepfapnkaaGreatDoor
