/- LeafTitles: a heading's text is told, however many signs close it. -/
import Derived.Test.YtkhaijcaeoclaaaDoorLfTitle
import Derived.Test.YtkhaijcaeoclaaaDoorLfProg
import Derived.Test.YtkhaijcaeoclaaaDoorLfKnown
import Derived.Test.YtkhaijcaeoclaaaDoorBit64
import Derived.Test.YtkhaijcaeoclaaaDoorRnIter
import Derived.Test.YtkhaijcaeoclaaaDoorCanon
import Derived.Deep.DeepCutAuto
import Derived.ProofKit
namespace Go.Proofs.YtkhaijcaeoclaaaDoor
open Go.RowKit
attribute [local go_sem] canOp readsAs readUpon

theorem run_rune (r : Int) (w : World) : (convert 21 9 (.int .i32 r)).run Tryd.prog w = .ok (.string (bs (Lib.encodeRune r))) w := by
  rw [run_convert_int_string w 21 9 .i32 r (by kernel_rfl) Tryd.underlying9, Ru.encode_eq]
  rfl
theorem signs_cut {n i : Nat} (a : List UInt8) (ha : a = List.replicate n 35) (h : i ≤ n) : (⟨a.toArray⟩ : ByteArray).extract 0 i = bs (List.replicate i 35) := by
  subst ha
  apply ByteArray.ext
  simp only [bs, ByteArray.data_extract, List.extract_toArray, List.extract_eq_take_drop]
  simp
  omega

theorem tmod6 (n : Int) : -5 ≤ n.tmod 6 ∧ n.tmod 6 ≤ 5 := by
  rcases Int.le_total 0 n with h | h
  · rw [Int.tmod_eq_emod_of_nonneg h]; omega
  · rw [show n = -(-n) from by omega, Int.neg_tmod, Int.tmod_eq_emod_of_nonneg (by omega)]; omega
theorem title_text1 {K M N : List UInt8} {k i : Nat} (hN : Lf.word N) (hK : K = List.replicate k 35) (hM : M = List.replicate i 35) (h1 : 1 ≤ k) (h6 : k ≤ 6) (h7 : i ≤ 7) : ∃ A1 A2 A3 A4 : List UInt8, ((bs K : ByteArray) ++ ⟨#[32]⟩ = bs A1) ∧ ((bs A1 : ByteArray) ++ bs N = bs A2) ∧ ((bs A2 : ByteArray) ++ ⟨#[32]⟩ = bs A3) ∧ ((bs A3 : ByteArray) ++ bs M = bs A4) ∧ A1.length ≤ 100 ∧ A2.length ≤ 100 ∧ A3.length ≤ 100 ∧ A4.length ≤ 100 ∧ Lf.heading A4 = some (k, N) := by
  have hl := hN.2.1
  have hkl : K.length = k := by rw [hK]; simp
  have hml : M.length = i := by rw [hM]; simp
  refine ⟨_, _, _, _, bs_append (K) ([32]), bs_append ((K ++ [32])) (N), bs_append (((K ++ [32]) ++ N)) ([32]), bs_append ((((K ++ [32]) ++ N) ++ [32])) (M), ?_, ?_, ?_, ?_, ?_⟩
  iterate 4 (· simp; omega)
  · rw [hK, hM, ← Lf.title_one hN h1 h6 i]; simp only [List.append_assoc, List.cons_append, List.nil_append]
theorem title_text2 {K N : List UInt8} {k : Nat} (hN : Lf.word N) (hK : K = List.replicate k 35) (h1 : 1 ≤ k) (h6 : k ≤ 6) : ∃ A1 A2 A3 : List UInt8, ((bs K : ByteArray) ++ ⟨#[9]⟩ = bs A1) ∧ ((bs A1 : ByteArray) ++ bs N = bs A2) ∧ ((bs A2 : ByteArray) ++ ⟨#[32, 32]⟩ = bs A3) ∧ A1.length ≤ 100 ∧ A2.length ≤ 100 ∧ A3.length ≤ 100 ∧ Lf.heading A3 = some (k, N) := by
  have hl := hN.2.1
  have hkl : K.length = k := by rw [hK]; simp
  refine ⟨_, _, _, bs_append (K) ([9]), bs_append ((K ++ [9])) (N), bs_append (((K ++ [9]) ++ N)) ([32, 32]), ?_, ?_, ?_, ?_⟩
  iterate 3 (· simp; omega)
  · rw [hK, ← Lf.title_two hN h1 h6]; simp only [List.append_assoc, List.cons_append, List.nil_append]
theorem title_text3 {K N : List UInt8} {k : Nat} (hN : Lf.word N) (hK : K = List.replicate k 35) (h1 : 1 ≤ k) (h6 : k ≤ 6) : ∃ A1 : List UInt8, ((bs K : ByteArray) ++ bs N = bs A1) ∧ A1.length ≤ 100 ∧ Lf.heading A1 = none := by
  have hl := hN.2.1
  have hkl : K.length = k := by rw [hK]; simp
  refine ⟨_, bs_append (K) (N), ?_, ?_⟩
  iterate 1 (· simp; omega)
  · rw [hK]; exact Lf.title_three hN h1
theorem title_text4 {N : List UInt8} (hN : Lf.word N) : ∃ A1 : List UInt8, ((⟨#[35, 35, 35, 35, 35, 35, 35, 32]⟩ : ByteArray) ++ bs N = bs A1) ∧ A1.length ≤ 100 ∧ Lf.heading A1 = none := by
  have hl := hN.2.1
  refine ⟨_, bs_append ([35, 35, 35, 35, 35, 35, 35, 32]) (N), ?_, ?_⟩
  iterate 1 (· simp; omega)
  · exact Lf.title_four N

set_option maxHeartbeats 8000000 in
set_option maxRecDepth 100000 in
theorem titles_any (n m : Int) (l : List UInt8) (w : World) (_hn : -9223372036854775808 ≤ n ∧ n ≤ 9223372036854775807) :
    Calls Tryd.prog 7 #[.int .i64 n, .int .i64 m, .string (bs l)] w fun e w' => e = .returned (.bool true) ∧ Below w.heap.size w w' := by
  go_enter Tryd.func7, Tryd.ntmps7
  go_upto_block 0 with fail
  go_cut [7] (fun v wx => ∃ N, v = .string (bs N) ∧ Lf.word N ∧ Below w.heap.size w wx)
  case first =>
    go_wp2_with fail
    go_loopw [7] (fun u wr => ∃ (pos : Nat) (N : List UInt8), u = .string (bs N) ∧ Lf.word N ∧ Hid (wr.heap[w.heap.size]? = some (.stringIter (bs l) pos)) ∧ Below w.heap.size w wr)
      (fun _ wr => l.length - wr.iterPos w.heap.size)
    case atStart => exact ⟨0, [116], rfl, ⟨by simp, by simp, by decide⟩, Lib.hid (iter_new _ _ _ rfl), ext_alloc _ _⟩
    case round =>
      obtain ⟨pos, N, rfl, hN, hit, hb⟩ := hrel
      have hsN := bs_size N
      have hN30 := hN.2.1
      by_cases hp : pos < l.length
      · obtain ⟨x, k, hk, hv, hd, hr⟩ := rune_at hp
        have hnx := run_next_rune hit.out hp hd
        replace hd := Lib.hid hd
        replace hr := Lib.hid hr
        have hit2 := Lib.hid (Lib.iterAt_heap wr w.heap.size (bs l) pos (pos + k) hit.out)
        have hb2 := Lib.below_iterAt hb (k := w.heap.size) (Nat.le_refl _) (bs l) (pos + k)
        have hpos : Hid (wr.iterPos w.heap.size = pos) := Lib.hid (by simp only [World.iterPos, hit.out])
        have hpos2 : Hid ((wr.iterAt w.heap.size (bs l) (pos + k)).iterPos w.heap.size = pos + k) := Lib.hid (by simp only [World.iterPos, hit2.out])
        by_cases h1 : 32 < x ∧ x ≠ 35 ∧ N.length < 40
        · obtain ⟨h1, h2, h3⟩ := h1
          obtain ⟨hE4, hE⟩ := Lf.rune_dark h1 h2
          have hm := Lib.hid (Lf.word_more hN h3 hE4 hE)
          have hcv := run_rune (x : Int)
          have t1 : decide ((32 : Int) < (x : Int)) = true := by simp; omega
          have t2 : ((x : Int) != 35) = true := by simp; omega
          have h3' : (N.length : Int) < 40 := by omega
          obtain ⟨E, hEE⟩ : ∃ E, Lib.encodeRune (x : Int) = E := ⟨_, rfl⟩
          rw [hEE] at hm hcv hE4
          have hz1 := bs_size E
          have ha := bs_append N E
          clear hEE hE
          replace hN := Lib.hid hN
          go_wp2_with fail
          go_roundw
          case rel => exact ⟨pos + k, N ++ E, rfl, hm.out, hit2, hb2⟩
          case measure => rw [hpos.out, hpos2.out]; omega
        · replace hN := Lib.hid hN
          have h4 : (decide ((32 : Int) < (x : Int)) = false) ∨ (decide ((32 : Int) < (x : Int)) = true ∧ ((x : Int) != 35) = false) ∨ (decide ((32 : Int) < (x : Int)) = true ∧ ((x : Int) != 35) = true ∧ ¬ (N.length : Int) < 40) := by
            by_cases a : 32 < x
            · by_cases b : x = 35
              · exact .inr (.inl ⟨by simp; omega, by simp; omega⟩)
              · exact .inr (.inr ⟨by simp; omega, by simp; omega, by omega⟩)
            · exact .inl (by simp; omega)
          clear h1
          rcases h4 with h4 | ⟨h4, h5⟩ | ⟨h4, h5, h6⟩
          all_goals
            go_wp2_with fail
            go_roundw
            case rel => exact ⟨pos + k, N, rfl, hN.out, hit2, hb2⟩
            case measure => rw [hpos.out, hpos2.out]; omega
      · have hnx := run_next_done hit.out hp
        replace hN := Lib.hid hN
        go_wp2_with fail
        go_meet
        case rel => exact ⟨N, rfl, hN.out, hb⟩
  case rest =>
    obtain ⟨N, rfl, hN, hB⟩ := hcut
    have lN := hN.2.1
    replace hN := Lib.hid hN
    replace hB := Lib.hid hB
    obtain ⟨j, hj, hj1, hj11⟩ : ∃ j : Nat, n.tmod 6 + 6 = (j : Int) ∧ 1 ≤ j ∧ j ≤ 11 := ⟨(n.tmod 6 + 6).toNat, by have := tmod6 n; omega, by have := tmod6 n; omega, by have := tmod6 n; omega⟩
    obtain ⟨t, ht, ht2, ht5⟩ : ∃ t : Nat, (j : Int).tmod 6 = (t : Int) ∧ (j : Int) % 6 = (t : Int) ∧ t ≤ 5 := ⟨j % 6, by rw [Int.tmod_eq_emod_of_nonneg (by omega)]; omega, by omega, by omega⟩
    obtain ⟨k, hk, hk1, hk6⟩ : ∃ k : Nat, 1 + (t : Int) = (k : Int) ∧ 1 ≤ k ∧ k ≤ 6 := ⟨1 + t, by omega, by omega, by omega⟩
    obtain ⟨i, hi, hi7⟩ : ∃ i : Nat, bits .and .i64 m 7 = (i : Int) ∧ i ≤ 7 := ⟨(m % 8).toNat, by rw [i64_and7]; omega, by omega⟩
    have x6 := signs_cut (n := 6) (i := k) [35, 35, 35, 35, 35, 35] rfl hk6
    have x7 := signs_cut (n := 7) (i := k) [35, 35, 35, 35, 35, 35, 35] rfl (by omega)
    have x8 := signs_cut (n := 8) (i := i) [35, 35, 35, 35, 35, 35, 35, 35] rfl (by omega)
    obtain ⟨K, hK⟩ : ∃ K, K = List.replicate k (35 : UInt8) := ⟨_, rfl⟩
    obtain ⟨M, hM⟩ : ∃ M, M = List.replicate i (35 : UInt8) := ⟨_, rfl⟩
    have k6 : (k : Int) ≤ 6 := by omega
    have k7 : (k : Int) ≤ 7 := by omega
    have i8 : (i : Int) ≤ 8 := by omega
    have zK := bs_size K
    have zM := bs_size M
    have zN := bs_size N
    have lK : K.length = k := by rw [hK]; simp
    have lM : M.length = i := by rw [hM]; simp
    rw [lK] at zK
    rw [lM] at zM
    rw [← hK] at x6 x7
    rw [← hM] at x8
    change (⟨#[35, 35, 35, 35, 35, 35]⟩ : ByteArray).extract 0 k = bs K at x6
    change (⟨#[35, 35, 35, 35, 35, 35, 35]⟩ : ByteArray).extract 0 k = bs K at x7
    change (⟨#[35, 35, 35, 35, 35, 35, 35, 35]⟩ : ByteArray).extract 0 i = bs M at x8
    obtain ⟨A1, A2, A3, A4, e1, e2, e3, e4, l1, l2, l3, l4, f1⟩ := title_text1 hN.out hK hM hk1 hk6 hi7
    obtain ⟨B1, B2, B3, b1, b2, b3, o1, o2, o3, f2⟩ := title_text2 hN.out hK hk1 hk6
    obtain ⟨C1, c1, q1, f3⟩ := title_text3 hN.out hK hk1 hk6
    obtain ⟨D1, d1, r1, f4⟩ := title_text4 hN.out
    have zA1 := bs_size A1
    have zA2 := bs_size A2
    have zA3 := bs_size A3
    have zB1 := bs_size B1
    have zB2 := bs_size B2
    have u1 : ¬ 9223372036854775807 < k + 1 := by omega
    have u2 : ¬ 9223372036854775807 < A1.length + N.length := by omega
    have u3 : ¬ 9223372036854775807 < A2.length + 1 := by omega
    have u4 : ¬ 9223372036854775807 < A3.length + i := by omega
    have v2 : ¬ 9223372036854775807 < B1.length + N.length := by omega
    have v3 : ¬ 9223372036854775807 < B2.length + 2 := by omega
    have w1 : ¬ 9223372036854775807 < k + N.length := by omega
    have w2 : ¬ 9223372036854775807 < 8 + N.length := by omega
    have p1 := fun w => phead_any A4 w (by omega)
    have p2 := fun w => phead_any B3 w (by omega)
    have p3 := fun w => phead_any C1 w (by omega)
    have p4 := fun w => phead_any D1 w (by omega)
    rw [f1] at p1
    rw [f2] at p2
    rw [f3] at p3
    rw [f4] at p4
    simp only [headv] at p1 p2 p3 p4
    clear f1 f2 f3 f4 hK hM lK lM hN
    go_upto_region 8 with fail
    refine wp_region_can [(true, 0), (true, 1), (true, 2), (true, 3), (true, 4), (true, 5), (true, 6), (true, 7), (true, 8), (true, 9), (false, 10), (true, 11), (true, 12), (true, 13), (true, 14), (true, 15), (true, 16), (true, 17)] (Ext wc) (ext_drew wc) (by kernel_rfl) (by kernel_rfl) (by kernel_rfl) (fun _ _ d _ _ h => by cases d <;> exact h) ?_
    repeat (first | refine wpCan_move rfl ?_ | (refine wpCan_cons rfl ?_; intro K hK; go_simp; refine hK _ _ _ ?_; clear hK K))
    refine wpCan_cons rfl ?_
    intro K hK
    go_simp
    refine (p1 _).mono ?_
    rintro e w3 ⟨rfl, hb3⟩
    refine can_ext (ext_trans (ext_drew _) hb3) (hK _ _ _ ?_)
    clear hK K p1
    have hB3 := Lib.hid (ext_trans hB.out (ext_trans (ext_drew _) hb3))
    clear hb3 hB
    repeat (first | refine wpCan_move rfl ?_ | (refine wpCan_cons rfl ?_; intro K hK; go_simp; refine hK _ _ _ ?_; clear hK K))
    refine wpCan_nil ?_
    go_wp2_with fail
    refine (p2 _).mono ?_
    rintro e w4 ⟨rfl, hb4⟩
    have hB4 := Lib.hid (ext_trans hB3.out hb4)
    clear hb4 hB3 p2
    go_wp2_with fail
    refine (p3 _).mono ?_
    rintro e w5 ⟨rfl, hb5⟩
    have hB5 := Lib.hid (ext_trans hB4.out hb5)
    clear hb5 hB4 p3
    go_wp2_with fail
    refine (p4 _).mono ?_
    rintro e w6 ⟨rfl, hb6⟩
    have hB6 := Lib.hid (ext_trans hB5.out hb6)
    clear hb6 hB5 p4
    go_wp2_with fail
    refine (known_fn _).mono ?_
    rintro e w9 ⟨rfl, hb9⟩
    go_wp2_with fail
    go_returns
    exact ⟨rfl, ext_trans hB6.out hb9⟩
end Go.Proofs.YtkhaijcaeoclaaaDoor
