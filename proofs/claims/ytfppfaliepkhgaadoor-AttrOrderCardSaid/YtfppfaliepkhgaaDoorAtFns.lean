/- Package attr: words, the language, keys, texts that need no quotes, styles, what a value is: one contract a function. -/
import Derived.Test.YtfppfaliepkhgaaDoorAtLib
import Derived.Test.YtfppfaliepkhgaaDoorCanon
import Derived.Test.YtfppfaliepkhgaaDoorAtPairsMath
import Derived.Test.YtfppfaliepkhgaaDoorAtStyle
namespace Go.Proofs.YtfppfaliepkhgaaDoor
open Go.RowKit
attribute [local go_sem] canOp readsAs readUpon

set_option maxHeartbeats 1000000 in
set_option maxRecDepth 100000 in
theorem ungap_any (l : List UInt8) (w : World) :
    Calls Tryd.prog 33 #[.string (bs l)] w fun e w' => e = .returned (.string (bs (l.drop (Cl.gaps l)))) ∧ Below w.heap.size w w' := by
  have h := trimLeft_any l
  go_enter Tryd.func33, Tryd.ntmps33
  go_wp2_with (go_at_call 51; refine (h _).mono ?_; rintro e w' ⟨rfl, hb⟩)
  go_ret
  exact ⟨rfl, hb⟩

theorem tw_full {p : UInt8 → Bool} {l : List UInt8} (h : ¬ (At.tw p l).length < l.length) : At.tw p l = l := by
  have h1 := At.tw_take p l
  rw [List.take_of_length_le (by omega)] at h1
  exact h1.symm

set_option maxHeartbeats 1000000 in
set_option maxRecDepth 100000 in
theorem pword_any (l : List UInt8) (w : World) (hl : l.length ≤ 1000000000) :
    Calls Tryd.prog 49 #[.string (bs l)] w fun e w' => e = .returned (.string (bs (At.tw At.word l))) ∧ Below w.heap.size w w' := by
  have h := fun w => indexAny_any l w hl
  have htk := At.tw_take At.word l
  have hfull := @tw_full At.word l
  have hlen := At.tw_len At.word l
  obtain ⟨W, hW⟩ : ∃ W, At.tw At.word l = W := ⟨_, rfl⟩
  rw [hW] at h htk hfull hlen
  rw [hW]
  clear hW
  by_cases hlt : W.length < l.length
  · rw [if_pos hlt] at h
    have hsl := run_upto (S := l) (i := W.length) (by omega)
    rw [htk] at hsl
    clear htk hfull
    go_enter Tryd.func49, Tryd.ntmps49
    go_wp2_with (go_at_call 68; refine (h _).mono ?_; rintro e w' ⟨rfl, hb⟩)
    go_ret
    exact ⟨rfl, hb⟩
  · rw [if_neg hlt] at h
    obtain rfl := hfull hlt
    clear htk
    go_enter Tryd.func49, Tryd.ntmps49
    go_wp2_with (go_at_call 68; refine (h _).mono ?_; rintro e w' ⟨rfl, hb⟩)
    go_ret
    exact ⟨rfl, hb⟩

/-- the language, and what is behind it -/
def At.langOf (r : List UInt8) : List UInt8 × List UInt8 := if At.isLang true (At.tw At.word r) = true then (At.tw At.word r, r.drop (At.tw At.word r).length) else ([], r)
theorem lang_ways (W : List UInt8) : (decide ((61 : UInt8) ∈ W) = false ∧ ((bs W).toList == [97, 112, 112, 101, 110, 100]) = false ∧ ((bs W).toList == [110, 111, 108, 105, 110, 101]) = false ∧ At.isLang true W = true) ∨
    (((bs W).toList == [97, 112, 112, 101, 110, 100]) = true ∧ At.isLang true W = false) ∨
    (((bs W).toList == [97, 112, 112, 101, 110, 100]) = false ∧ ((bs W).toList == [110, 111, 108, 105, 110, 101]) = true ∧ At.isLang true W = false) ∨
    (((bs W).toList == [97, 112, 112, 101, 110, 100]) = false ∧ ((bs W).toList == [110, 111, 108, 105, 110, 101]) = false ∧ decide ((61 : UInt8) ∈ W) = true ∧ At.isLang true W = false) := by
  have eqA : ((bs W).toList == [97, 112, 112, 101, 110, 100]) = decide (W = At.wAppend) := by
    rw [bs_toList]
    by_cases h : W = At.wAppend
    · rw [decide_eq_true h, h]; rfl
    · rw [decide_eq_false h]; exact beq_eq_false_iff_ne.2 h
  have eqN : ((bs W).toList == [110, 111, 108, 105, 110, 101]) = decide (W = At.wNoline) := by
    rw [bs_toList]
    by_cases h : W = At.wNoline
    · rw [decide_eq_true h, h]; rfl
    · rw [decide_eq_false h]; exact beq_eq_false_iff_ne.2 h
  rw [eqA, eqN]
  unfold At.isLang
  simp only [ne_eq, decide_not]
  cases decide ((61 : UInt8) ∈ W) <;> cases decide (W = At.wAppend) <;> cases decide (W = At.wNoline) <;> simp

set_option maxHeartbeats 2000000 in
set_option maxRecDepth 100000 in
theorem language_any (l : List UInt8) (w : World) (hl : l.length ≤ 1000000000) :
    Calls Tryd.prog 32 #[.string (bs l)] w fun e w' => e = .returned (.tuple #[.string (bs (At.langOf (l.drop (Cl.gaps l))).1), .string (bs (At.langOf (l.drop (Cl.gaps l))).2)]) ∧ Below w.heap.size w w' := by
  have hu := ungap_any l
  obtain ⟨r, hr⟩ : ∃ r, l.drop (Cl.gaps l) = r := ⟨_, rfl⟩
  have hrl : r.length ≤ l.length := by rw [← hr, List.length_drop]; omega
  rw [hr] at hu
  rw [hr]
  clear hr
  have hw := fun w => pword_any r w (by omega)
  have hlo : At.langOf r = if At.isLang true (At.tw At.word r) = true then (At.tw At.word r, r.drop (At.tw At.word r).length) else ([], r) := rfl
  have hlen := At.tw_len At.word r
  obtain ⟨W, hW⟩ : ∃ W, At.tw At.word r = W := ⟨_, rfl⟩
  rw [hW] at hw hlo hlen
  clear hW
  have hzW := bs_size W
  have hcn := fun w => contains_any W 61 w
  have hcl := fun w => clone_any W w (by omega)
  have hsl := run_from (S := r) (i := W.length) hlen
  rcases lang_ways W with ⟨a, b, c, h⟩ | ⟨a, h⟩ | ⟨a, b, h⟩ | ⟨a, b, c, h⟩
  · rw [h, if_pos rfl] at hlo
    obtain ⟨R, hR⟩ : ∃ R, r.drop W.length = R := ⟨_, rfl⟩
    rw [hR] at hlo hsl
    rw [hlo]
    rw [a] at hcn
    clear hlo hR h a
    go_enter Tryd.func32, Tryd.ntmps32
    go_wp2_with fail
    refine (hu _).mono ?_
    rintro e w1 ⟨rfl, hb1⟩
    go_wp2_with fail
    refine (hw _).mono ?_
    rintro e w2 ⟨rfl, hb2⟩
    replace hb2 := Lib.hid (ext_trans hb1 hb2)
    go_wp2_with (go_at_call 50; refine (hcn _).mono ?_; rintro e w' ⟨rfl, rfl⟩)
    refine wp_region_can [(true, 0), (true, 2), (true, 3), (true, 4), (true, 5), (false, 1), (true, 6), (true, 7)] (Ext w') (ext_drew w') (by kernel_rfl) (by kernel_rfl) (by kernel_rfl) (fun _ _ d _ _ h => by cases d <;> exact h) ?_
    repeat (first | refine wpCan_move rfl ?_ | (refine wpCan_cons rfl ?_; intro K hK; go_simp; refine hK _ _ _ ?_; clear hK K))
    refine wpCan_cons rfl ?_
    intro K hK
    go_simp
    refine (hcl _).mono ?_
    rintro e w3 ⟨rfl, hb3⟩
    refine can_ext (ext_trans (ext_drew _) hb3) (hK _ _ _ ?_)
    clear hK K
    repeat (first | refine wpCan_move rfl ?_ | (refine wpCan_cons rfl ?_; intro K hK; go_simp; refine hK _ _ _ ?_; clear hK K))
    refine wpCan_nil ?_
    go_wp2_with fail
    go_ret2
    exact ⟨rfl, ext_trans hb2.out (ext_trans (ext_drew _) hb3)⟩
  · rw [h, if_neg (by simp)] at hlo
    rw [hlo]
    clear hlo h hsl
    go_enter Tryd.func32, Tryd.ntmps32
    go_wp2_with fail
    refine (hu _).mono ?_
    rintro e w1 ⟨rfl, hb1⟩
    go_wp2_with fail
    refine (hw _).mono ?_
    rintro e w2 ⟨rfl, hb2⟩
    replace hb2 := Lib.hid (ext_trans hb1 hb2)
    go_wp2_with (go_at_call 50; refine (hcn _).mono ?_; rintro e w' ⟨rfl, rfl⟩)
    go_ret2
    exact ⟨rfl, hb2.out⟩
  · rw [h, if_neg (by simp)] at hlo
    rw [hlo]
    clear hlo h hsl
    go_enter Tryd.func32, Tryd.ntmps32
    go_wp2_with fail
    refine (hu _).mono ?_
    rintro e w1 ⟨rfl, hb1⟩
    go_wp2_with fail
    refine (hw _).mono ?_
    rintro e w2 ⟨rfl, hb2⟩
    replace hb2 := Lib.hid (ext_trans hb1 hb2)
    go_wp2_with (go_at_call 50; refine (hcn _).mono ?_; rintro e w' ⟨rfl, rfl⟩)
    go_ret2
    exact ⟨rfl, hb2.out⟩
  · rw [h, if_neg (by simp)] at hlo
    rw [hlo]
    rw [c] at hcn
    clear hlo h hsl c
    go_enter Tryd.func32, Tryd.ntmps32
    go_wp2_with fail
    refine (hu _).mono ?_
    rintro e w1 ⟨rfl, hb1⟩
    go_wp2_with fail
    refine (hw _).mono ?_
    rintro e w2 ⟨rfl, hb2⟩
    replace hb2 := Lib.hid (ext_trans hb1 hb2)
    go_wp2_with (go_at_call 50; refine (hcn _).mono ?_; rintro e w' ⟨rfl, rfl⟩)
    go_ret2
    exact ⟨rfl, hb2.out⟩

theorem pletter_tests (b : UInt8) : (((97 : Int) ≤ (b.toNat : Int)) ∧ ((b.toNat : Int) ≤ 122) ∧ At.letter b = true) ∨ (¬ ((97 : Int) ≤ (b.toNat : Int)) ∧ At.letter b = false) ∨ (((97 : Int) ≤ (b.toNat : Int)) ∧ ¬ ((b.toNat : Int) ≤ 122) ∧ At.letter b = false) := by
  unfold At.letter
  by_cases h : 97 ≤ b.toNat
  · by_cases h' : b.toNat ≤ 122
    · exact .inl ⟨by omega, by omega, by simp; omega⟩
    · exact .inr (.inr ⟨by omega, by omega, by simp; omega⟩)
  · exact .inr (.inl ⟨by omega, by simp; omega⟩)

set_option maxHeartbeats 2000000 in
set_option maxRecDepth 100000 in
theorem keyLength_any (l : List UInt8) (w : World) (hl : l.length ≤ 1000000000) :
    Calls Tryd.prog 52 #[.string (bs l)] w fun e w' => e = .returned (.int .i64 ((At.tw At.letter l).length : Nat)) ∧ w = w' := by
  have hsz := bs_size l
  obtain ⟨V, hV⟩ : ∃ V, (At.tw At.letter l).length = V := ⟨_, rfl⟩
  rw [hV]
  replace hV := Lib.hid hV
  go_enter Tryd.func52, Tryd.ntmps52
  go_wp2_with fail
  go_loop [3] (fun u => ∃ k : Nat, k ≤ l.length ∧ u = .int .i64 k ∧ Hid (k + (At.tw At.letter (l.drop k)).length = V)) (fun u => l.length - (intOf u).toNat)
  case atStart => exact ⟨0, by omega, rfl, Lib.hid (by rw [← hV.out]; simp)⟩
  case round =>
    obtain ⟨k, hk, rfl, hf⟩ := hrel
    rcases Nat.lt_or_eq_of_le hk with hlt | rfl
    · have hx := run_byte hlt w
      rcases pletter_tests l[k] with ⟨g1, g2, h⟩ | ⟨g1, h⟩ | ⟨g1, g2, h⟩
      · have hf2 : Hid (k + 1 + (At.tw At.letter (l.drop (k + 1))).length = V) := Lib.hid (by have := hf.out; rw [At.tw_at hlt h] at this; omega)
        clear h
        go_wp2
        go_round
        case rel => exact ⟨k + 1, by omega, by go_num, hf2⟩
        case measure => simp [intOf]; omega
      all_goals
        have hfin : Hid (V = k) := Lib.hid (by have := hf.out; rw [At.tw_not hlt h] at this; omega)
        clear h
        go_wp2
        go_returns
        exact ⟨by rw [hfin.out]; rfl, rfl⟩
    · have hfin : Hid (V = l.length) := Lib.hid (by have := hf.out; rw [At.tw_end (by omega)] at this; omega)
      go_wp2
      go_returns
      exact ⟨by rw [hfin.out]; rfl, rfl⟩

set_option maxHeartbeats 4000000 in
set_option maxRecDepth 100000 in
theorem pbare_any (l : List UInt8) (w : World) :
    Calls Tryd.prog 60 #[.string (bs l)] w fun e w' => e = .returned (.bool (At.bare l)) ∧ Below w.heap.size w w' := by
  go_enter Tryd.func60, Tryd.ntmps60
  go_wp2_with fail
  go_loopw [] (fun wr => ∃ pos : Nat, Hid (wr.heap[w.heap.size]? = some (.stringIter (bs l) pos)) ∧ Hid ((Ru.runes l).all At.okRune = (Ru.runes (l.drop pos)).all At.okRune) ∧ Below w.heap.size w wr)
    (fun wr => l.length - wr.iterPos w.heap.size)
  case atStart => exact ⟨0, Lib.hid (iter_new _ _ _ rfl), Lib.hid rfl, ext_alloc _ _⟩
  case round =>
    obtain ⟨pos, hit, hD, hb⟩ := hrel
    by_cases hp : pos < l.length
    · obtain ⟨x, k, hk, _, hd, hr⟩ := rune_at hp
      have hnx := run_next_rune hit.out hp hd
      replace hd := Lib.hid hd
      replace hr := Lib.hid hr
      have hit2 := Lib.hid (Lib.iterAt_heap wr w.heap.size (bs l) pos (pos + k) hit.out)
      have hb2 := Lib.below_iterAt hb (k := w.heap.size) (Nat.le_refl _) (bs l) (pos + k)
      have hpos : Hid (wr.iterPos w.heap.size = pos) := Lib.hid (by simp only [World.iterPos, hit.out])
      have hpos2 : Hid ((wr.iterAt w.heap.size (bs l) (pos + k)).iterPos w.heap.size = pos + k) := Lib.hid (by simp only [World.iterPos, hit2.out])
      have hbl := blank_any x
      rcases bare_split x with ⟨a, h⟩ | ⟨a, b, h⟩ | ⟨a, b, c, h⟩ | ⟨a, b, c, d, h⟩ | ⟨a, b, c, d, h⟩
      case inr.inr.inr.inr =>
        have hD2 : Hid ((Ru.runes l).all At.okRune = (Ru.runes (l.drop (pos + k))).all At.okRune) := Lib.hid (by rw [hD.out, hr.out, List.all_cons, h, Bool.true_and])
        rw [a] at hbl
        clear a h
        go_wp2_with (go_at_call 28; refine (hbl _).mono ?_; rintro e w' ⟨rfl, rfl⟩)
        go_roundw
        case rel => exact ⟨pos + k, hit2, hD2, hb2⟩
        case measure => rw [hpos.out, hpos2.out]; omega
      all_goals
        have hfin : Hid (At.bare l = false) := Lib.hid (by unfold At.bare; rw [hD.out, hr.out, List.all_cons, h, Bool.false_and, Bool.false_and])
        rw [a] at hbl
        clear a h
        go_wp2_with (go_at_call 28; refine (hbl _).mono ?_; rintro e w' ⟨rfl, rfl⟩)
        go_returns
        exact ⟨by rw [hfin.out]; rfl, hb2⟩
    · have hnx := run_next_done hit.out hp
      have hall : (Ru.runes l).all At.okRune = true := by
        rw [hD.out, List.drop_eq_nil_of_le (by omega)]; rfl
      have hfin : Hid (At.bare l = decide (l ≠ [])) := Lib.hid (by unfold At.bare; rw [hall, Bool.true_and])
      clear hall hD
      rcases l with _ | ⟨b, r⟩
      · have ht := text_nil
        go_wp2_with fail
        go_returns
        exact ⟨by rw [hfin.out]; rfl, hb⟩
      · have ht := text_cons b r
        go_wp2_with fail
        go_returns
        exact ⟨by rw [hfin.out]; rfl, hb⟩

set_option maxHeartbeats 1000000 in
set_option maxRecDepth 100000 in
theorem pstyle_any (l : List UInt8) (w : World) (hl : l.length ≤ 140737488355328) :
    Calls Tryd.prog 45 #[.string (bs l)] w fun e w' => e = .returned (.bool (At.style l)) ∧ w = w' := by
  have hsz := bs_size l
  go_enter Tryd.func45, Tryd.ntmps45
  go_wp2_with fail
  go_loop [6] (fun u => ∃ k : Nat, k ≤ l.length ∧ u = .int .i64 k ∧ Hid (l.all At.print = (l.drop k).all At.print)) (fun u => l.length - (intOf u).toNat)
  case atStart => exact ⟨0, by omega, rfl, Lib.hid rfl⟩
  case round =>
    obtain ⟨k, hk, rfl, hf⟩ := hrel
    by_cases hlt : k < l.length
    · have hx := run_byte hlt w
      have hd : (l.drop k).all At.print = (At.print l[k] && (l.drop (k + 1)).all At.print) := by rw [List.drop_eq_getElem_cons hlt, List.all_cons]
      rcases print_tests l[k] with ⟨g1, h⟩ | ⟨g1, g2, h⟩ | ⟨g1, g2, h⟩
      case inr.inr =>
        have hf2 : Hid (l.all At.print = (l.drop (k + 1)).all At.print) := Lib.hid (by rw [hf.out, hd, h, Bool.true_and])
        clear hd h
        go_wp2
        go_round
        case rel => exact ⟨k + 1, by omega, by go_num, hf2⟩
        case measure => simp [intOf]; omega
      all_goals
        have hfin : Hid (At.style l = false) := Lib.hid (by unfold At.style; rw [hf.out, hd, h, Bool.false_and, Bool.false_and])
        clear hd h
        go_wp2
        go_returns
        exact ⟨by rw [hfin.out]; rfl, rfl⟩
    · have hall : l.all At.print = true := by rw [hf.out, List.drop_eq_nil_of_le (by omega)]; rfl
      have hfin : At.style l = decide (1 ≤ l.length ∧ l.length ≤ 4) := by unfold At.style; rw [hall, Bool.true_and]
      clear hall hf
      rcases l with _ | ⟨b, r⟩
      · have ht := text_nil
        replace hfin := Lib.hid hfin
        go_wp2
        go_returns
        exact ⟨by rw [hfin.out]; rfl, rfl⟩
      · have ht := text_cons b r
        have hfin2 : Hid (At.style (b :: r) = decide (((b :: r).length : Int) ≤ 4)) := Lib.hid (by rw [hfin, decide_eq_decide]; simp only [List.length_cons]; omega)
        clear hfin
        obtain ⟨n, hn⟩ : ∃ n, (b :: r).length = n := ⟨_, rfl⟩
        rw [hn] at hsz hfin2
        go_wp2
        go_returns
        exact ⟨by rw [hfin2.out]; rfl, rfl⟩

/-- what a value is: a text, or true -/
def av (p : At.Pr) : Value := if p.alone = true then .iface 4 (.bool true) else .iface 9 (.string (bs p.text))

theorem as_yes (t u : TypeId) (d : TypeDesc) (v : Value) (w : World) (h : Tryd.prog.underlying t = some d) (hd : d = .string ∨ d = .bool) : (Instr.typeAssert (.iface t v) u t true).run Tryd.prog w = .ok (.tuple #[v, .bool true]) w := by
  rcases hd with rfl | rfl <;> simp [Instr.typeAssert, run_underlying h, go_sem, Result.andThen]
theorem as_one (v : Value) (u : TypeId) (w : World) : (Instr.typeAssert (.iface 9 v) u 9 false).run Tryd.prog w = .ok v w := by
  simp [Instr.typeAssert, run_underlying Tryd.underlying9, go_sem, Result.andThen]
theorem as_no_text (v : Value) (u : TypeId) (w : World) : (Instr.typeAssert (.iface 4 v) u 9 true).run Tryd.prog w = .ok (.tuple #[.string ⟨#[]⟩, .bool false]) w := by
  have hz : (zeroValue 9).run Tryd.prog w = .ok (.string ⟨#[]⟩) w := by kernel_rfl
  simp [Instr.typeAssert, run_underlying Tryd.underlying9, go_sem, Result.andThen, hz]
theorem as_no_flag (v : Value) (u : TypeId) (w : World) : (Instr.typeAssert (.iface 9 v) u 4 true).run Tryd.prog w = .ok (.tuple #[.bool false, .bool false]) w := by
  have hz : (zeroValue 4).run Tryd.prog w = .ok (.bool false) w := by kernel_rfl
  simp [Instr.typeAssert, run_underlying Tryd.underlying4, go_sem, Result.andThen, hz]

set_option maxHeartbeats 1000000 in
set_option maxRecDepth 100000 in
theorem asText_text (t : List UInt8) (w : World) :
    Calls Tryd.prog 38 #[.iface 9 (.string (bs t))] w fun e w' => e = .returned (.tuple #[.string (bs t), .bool true]) ∧ w = w' := by
  have ha := fun w => as_yes 9 20 _ (.string (bs t)) w Tryd.underlying9 (.inl rfl)
  go_enter Tryd.func38, Tryd.ntmps38
  go_wp2
  go_ret2
  exact ⟨rfl, rfl⟩
set_option maxHeartbeats 1000000 in
set_option maxRecDepth 100000 in
theorem asText_flag (w : World) :
    Calls Tryd.prog 38 #[.iface 4 (.bool true)] w fun e w' => e = .returned (.tuple #[.string ⟨#[]⟩, .bool false]) ∧ w = w' := by
  have ha := fun w => as_no_text (.bool true) 20 w
  go_enter Tryd.func38, Tryd.ntmps38
  go_wp2
  go_ret2
  exact ⟨rfl, rfl⟩
set_option maxHeartbeats 1000000 in
set_option maxRecDepth 100000 in
theorem mustText_text (t : List UInt8) (w : World) :
    Calls Tryd.prog 40 #[.iface 9 (.string (bs t))] w fun e w' => e = .returned (.string (bs t)) ∧ w = w' := by
  have ha := fun w => as_one (.string (bs t)) 20 w
  go_enter Tryd.func40, Tryd.ntmps40
  go_wp2
  go_ret
  exact ⟨rfl, rfl⟩
set_option maxHeartbeats 1000000 in
set_option maxRecDepth 100000 in
theorem text_text (t : List UInt8) (w : World) (hl : t.length ≤ 140737488355328) :
    Calls Tryd.prog 18 #[.iface 9 (.string (bs t))] w fun e w' => e = .returned (.tuple #[.string (bs t), .bool true]) ∧ Below w.heap.size w w' := by
  have h1 := asText_text t
  have h2 := fun w => clone_any t w hl
  go_enter Tryd.func18, Tryd.ntmps18
  go_wp2_with (first | (go_at_call 38; refine (h1 _).mono ?_; rintro e w' ⟨rfl, rfl⟩) | (go_at_call 39; refine (h2 _).mono ?_; rintro e w1 ⟨rfl, hb1⟩))
  go_ret2
  exact ⟨rfl, hb1⟩
set_option maxHeartbeats 1000000 in
set_option maxRecDepth 100000 in
theorem text_flag (w : World) :
    Calls Tryd.prog 18 #[.iface 4 (.bool true)] w fun e w' => e = .returned (.tuple #[.string ⟨#[]⟩, .bool false]) ∧ Below w.heap.size w w' := by
  have h1 := asText_flag
  have h2 := fun w => clone_any [] w (by decide)
  change ∀ w, Calls Tryd.prog 39 #[.string ⟨#[]⟩] w _ at h2
  go_enter Tryd.func18, Tryd.ntmps18
  go_wp2_with (first | (go_at_call 38; refine (h1 _).mono ?_; rintro e w' ⟨rfl, rfl⟩) | (go_at_call 39; refine (h2 _).mono ?_; rintro e w1 ⟨rfl, hb1⟩))
  go_ret2
  exact ⟨rfl, hb1⟩
set_option maxHeartbeats 1000000 in
set_option maxRecDepth 100000 in
theorem must_text (t : List UInt8) (w : World) (hl : t.length ≤ 140737488355328) :
    Calls Tryd.prog 19 #[.iface 9 (.string (bs t))] w fun e w' => e = .returned (.string (bs t)) ∧ Below w.heap.size w w' := by
  have h1 := mustText_text t
  have h2 := fun w => clone_any t w hl
  go_enter Tryd.func19, Tryd.ntmps19
  go_wp2_with (first | (go_at_call 40; refine (h1 _).mono ?_; rintro e w' ⟨rfl, rfl⟩) | (go_at_call 39; refine (h2 _).mono ?_; rintro e w1 ⟨rfl, hb1⟩))
  go_ret
  exact ⟨rfl, hb1⟩
end Go.Proofs.YtfppfaliepkhgaaDoor
