/- AttrOrder: in which order pairs stand is all the same; twice they may not stand. -/
import Derived.Test.YtfppfaliepkhgaaDoorAtOrder
import Derived.Test.YtfppfaliepkhgaaDoorAtTail
import Derived.Test.YtfppfaliepkhgaaDoorAtMade
import Derived.Test.YtfppfaliepkhgaaDoorAtKnown
import Derived.Test.YtfppfaliepkhgaaDoorCanon2
import Derived.Deep.DeepCutAuto
import Derived.ProofKit
namespace Go.Proofs.YtfppfaliepkhgaaDoor
open Go.RowKit
attribute [local go_sem] canOp readsAs readUpon

/-- an Attr's block -/
abbrev AtBlk (w : World) (g : Nat) (a : At.Attr) : Prop := w.heap[g]? = some (.cells (acells a) 27)
/-- one of the five styles -/
def fiveStyle (S : List UInt8) : Prop := S = [35] ∨ S = [47, 47] ∨ S = [59] ∨ S = [45, 45] ∨ S = [37]
theorem five_facts {S : List UInt8} (h : fiveStyle S) : At.bare S = true ∧ At.style S = true ∧ S.length ≤ 2 := by
  rcases h with rfl | rfl | rfl | rfl | rfl <;> exact ⟨by kernel_rfl, by kernel_rfl, by decide⟩
theorem three_ways (b : UInt8) : bits .and .u8 (b.toNat : Int) 3 = 0 ∨ bits .and .u8 (b.toNat : Int) 3 = 1 ∨ bits .and .u8 (b.toNat : Int) 3 = 2 ∨ bits .and .u8 (b.toNat : Int) 3 = 3 := by
  have hb : b.toNat < 256 := b.toNat_lt
  have h : bits .and .u8 (b.toNat : Int) ((3 : Nat) : Int) = ((b.toNat &&& 3 : Nat) : Int) := u8_and_nat _ _ hb (by omega)
  rw [show ((3 : Nat) : Int) = 3 from rfl] at h
  have h3 : b.toNat &&& 3 = b.toNat % 4 := Nat.and_two_pow_sub_one_eq_mod b.toNat 2
  rw [h, h3]
  omega
/-- a name that is collected: small letters, few -/
def fewLetters (N : List UInt8) : Prop := N ≠ [] ∧ N.length ≤ 30 ∧ ∀ b ∈ N, At.letter b = true
theorem few_more {N : List UInt8} {x : Nat} (h : fewLetters N) (hl : N.length < 30) (h1 : 97 ≤ x) (h2 : x ≤ 122) : fewLetters (N ++ [UInt8.ofNat x]) ∧ Lib.encodeRune (x : Int) = [UInt8.ofNat x] := by
  refine ⟨⟨by simp, by simp; omega, fun b hb => ?_⟩, At.enc_letter (by omega)⟩
  rcases List.mem_append.1 hb with hb | hb
  · exact h.2.2 b hb
  · rw [List.mem_singleton] at hb
    subst hb
    unfold At.letter
    simp; omega

theorem set_six_same {w : World} {g : Nat} {x0 x1 x2 x3 x4 x5 : Value} {t : TypeId} (h : w.heap[g]? = some (.cells #[x0, x1, x2, x3, x4, x5] t)) (a b c d e f : Value) :
    ((((((w.setCell ⟨g, 0, none⟩ a).setCell ⟨g, 1, none⟩ b).setCell ⟨g, 2, none⟩ c).setCell ⟨g, 3, none⟩ d).setCell ⟨g, 4, none⟩ e).setCell ⟨g, 5, none⟩ f).heap[g]? = some (.cells #[a, b, c, d, e, f] t) :=
  heap_setCell_same _ _ 5 _ _ f (heap_setCell_same _ _ 4 _ _ e (heap_setCell_same _ _ 3 _ _ d (heap_setCell_same _ _ 2 _ _ c (heap_setCell_same _ _ 1 _ _ b (heap_setCell_same _ _ 0 _ _ a h)))))
theorem set_six {w : World} {g k : Nat} (h : k ≠ g) (a b c d e f : Value) :
    ((((((w.setCell ⟨g, 0, none⟩ a).setCell ⟨g, 1, none⟩ b).setCell ⟨g, 2, none⟩ c).setCell ⟨g, 3, none⟩ d).setCell ⟨g, 4, none⟩ e).setCell ⟨g, 5, none⟩ f).heap[k]? = w.heap[k]? := by
  rw [Below.heap_setCell _ _ _ _ h, Below.heap_setCell _ _ _ _ h, Below.heap_setCell _ _ _ _ h, Below.heap_setCell _ _ _ _ h, Below.heap_setCell _ _ _ _ h, Below.heap_setCell _ _ _ _ h]
theorem below_six {B g : Nat} {w w1 : World} (h : Below B w w1) (hg : B ≤ g) (a b c d e f : Value) :
    Below B w ((((((w1.setCell ⟨g, 0, none⟩ a).setCell ⟨g, 1, none⟩ b).setCell ⟨g, 2, none⟩ c).setCell ⟨g, 3, none⟩ d).setCell ⟨g, 4, none⟩ e).setCell ⟨g, 5, none⟩ f) :=
  (((((h.setCell hg _).setCell hg _).setCell hg _).setCell hg _).setCell hg _).setCell hg _

theorem text_one {N S T0 T1 : List UInt8} (hN : fewLetters N) (hS : fiveStyle S) (h0 : T0 = At.wName ++ 61 :: N) (h1 : T1 = At.wComment ++ 61 :: S) : ∃ A1 A2 A3 A4 A5 A6 A7 : List UInt8, ((⟨#[103, 111, 32]⟩ : ByteArray) ++ bs T0 = bs A1) ∧ ((bs A1 : ByteArray) ++ ⟨#[32]⟩ = bs A2) ∧ ((bs A2 : ByteArray) ++ bs T1 = bs A3) ∧ ((bs A3 : ByteArray) ++ ⟨#[32]⟩ = bs A4) ∧ ((bs A4 : ByteArray) ++ ⟨#[97, 112, 112, 101, 110, 100]⟩ = bs A5) ∧ ((bs A5 : ByteArray) ++ ⟨#[32]⟩ = bs A6) ∧ ((bs A6 : ByteArray) ++ ⟨#[110, 111, 108, 105, 110, 101]⟩ = bs A7) ∧ A1.length ≤ 400 ∧ A2.length ≤ 400 ∧ A3.length ≤ 400 ∧ A4.length ≤ 400 ∧ A5.length ≤ 400 ∧ A6.length ≤ 400 ∧ A7.length ≤ 400 ∧ At.read A7 = some ⟨At.wGo, N, [], S, true, true⟩ := by
  have hS1 := five_facts hS
  have hN1 := hN.2.1
  have hb := At.bare_letters hN.1 hN.2.2
  have hn := At.name_letters hN.1 (by omega) hN.2.2
  have hl0 : T0.length ≤ 35 := by rw [h0]; simp [At.wName]; omega
  have hl1 : T1.length ≤ 10 := by rw [h1]; simp [At.wComment]; omega
  refine ⟨_, _, _, _, _, _, _, bs_append ([103, 111, 32]) (T0), bs_append (([103, 111, 32] ++ T0)) ([32]), bs_append ((([103, 111, 32] ++ T0) ++ [32])) (T1), bs_append (((([103, 111, 32] ++ T0) ++ [32]) ++ T1)) ([32]), bs_append ((((([103, 111, 32] ++ T0) ++ [32]) ++ T1) ++ [32])) ([97, 112, 112, 101, 110, 100]), bs_append (((((([103, 111, 32] ++ T0) ++ [32]) ++ T1) ++ [32]) ++ [97, 112, 112, 101, 110, 100])) ([32]), bs_append ((((((([103, 111, 32] ++ T0) ++ [32]) ++ T1) ++ [32]) ++ [97, 112, 112, 101, 110, 100]) ++ [32])) ([110, 111, 108, 105, 110, 101]), ?_, ?_, ?_, ?_, ?_, ?_, ?_, ?_⟩
  iterate 7 (· simp only [List.length_append, List.length_cons, List.length_nil]; omega)
  · have h := At.read_one hb hS1.1 hn hS1.2.1
    simp only [At.wGo, At.wName, At.wComment, At.wAppend, At.wNoline, List.cons_append, List.nil_append, List.append_nil] at h
    rw [h0, h1]
    simp only [At.wGo, At.wName, At.wComment, List.cons_append, List.nil_append, List.append_assoc]
    exact h
theorem text_two {N S T0 T1 : List UInt8} (hN : fewLetters N) (hS : fiveStyle S) (h0 : T0 = At.wName ++ 61 :: N) (h1 : T1 = At.wComment ++ 61 :: S) : ∃ A1 A2 A3 A4 A5 A6 A7 A8 : List UInt8, ((⟨#[103, 111, 32, 32]⟩ : ByteArray) ++ ⟨#[110, 111, 108, 105, 110, 101]⟩ = bs A1) ∧ ((bs A1 : ByteArray) ++ ⟨#[9]⟩ = bs A2) ∧ ((bs A2 : ByteArray) ++ bs T1 = bs A3) ∧ ((bs A3 : ByteArray) ++ ⟨#[32]⟩ = bs A4) ∧ ((bs A4 : ByteArray) ++ ⟨#[97, 112, 112, 101, 110, 100]⟩ = bs A5) ∧ ((bs A5 : ByteArray) ++ ⟨#[32]⟩ = bs A6) ∧ ((bs A6 : ByteArray) ++ bs T0 = bs A7) ∧ ((bs A7 : ByteArray) ++ ⟨#[32]⟩ = bs A8) ∧ A1.length ≤ 400 ∧ A2.length ≤ 400 ∧ A3.length ≤ 400 ∧ A4.length ≤ 400 ∧ A5.length ≤ 400 ∧ A6.length ≤ 400 ∧ A7.length ≤ 400 ∧ A8.length ≤ 400 ∧ At.read A8 = some ⟨At.wGo, N, [], S, true, true⟩ := by
  have hS1 := five_facts hS
  have hN1 := hN.2.1
  have hb := At.bare_letters hN.1 hN.2.2
  have hn := At.name_letters hN.1 (by omega) hN.2.2
  have hl0 : T0.length ≤ 35 := by rw [h0]; simp [At.wName]; omega
  have hl1 : T1.length ≤ 10 := by rw [h1]; simp [At.wComment]; omega
  refine ⟨_, _, _, _, _, _, _, _, bs_append ([103, 111, 32, 32]) ([110, 111, 108, 105, 110, 101]), bs_append (([103, 111, 32, 32] ++ [110, 111, 108, 105, 110, 101])) ([9]), bs_append ((([103, 111, 32, 32] ++ [110, 111, 108, 105, 110, 101]) ++ [9])) (T1), bs_append (((([103, 111, 32, 32] ++ [110, 111, 108, 105, 110, 101]) ++ [9]) ++ T1)) ([32]), bs_append ((((([103, 111, 32, 32] ++ [110, 111, 108, 105, 110, 101]) ++ [9]) ++ T1) ++ [32])) ([97, 112, 112, 101, 110, 100]), bs_append (((((([103, 111, 32, 32] ++ [110, 111, 108, 105, 110, 101]) ++ [9]) ++ T1) ++ [32]) ++ [97, 112, 112, 101, 110, 100])) ([32]), bs_append ((((((([103, 111, 32, 32] ++ [110, 111, 108, 105, 110, 101]) ++ [9]) ++ T1) ++ [32]) ++ [97, 112, 112, 101, 110, 100]) ++ [32])) (T0), bs_append (((((((([103, 111, 32, 32] ++ [110, 111, 108, 105, 110, 101]) ++ [9]) ++ T1) ++ [32]) ++ [97, 112, 112, 101, 110, 100]) ++ [32]) ++ T0)) ([32]), ?_, ?_, ?_, ?_, ?_, ?_, ?_, ?_, ?_⟩
  iterate 8 (· simp only [List.length_append, List.length_cons, List.length_nil]; omega)
  · have h := At.read_two hb hS1.1 hn hS1.2.1
    simp only [At.wGo, At.wName, At.wComment, At.wAppend, At.wNoline, List.cons_append, List.nil_append] at h
    rw [h0, h1]
    simp only [At.wGo, At.wName, At.wComment, List.cons_append, List.nil_append, List.append_assoc]
    exact h
theorem text_three {N T0 : List UInt8} (hN : fewLetters N) (h0 : T0 = At.wName ++ 61 :: N) : ∃ A1 A2 A3 A4 A5 : List UInt8, ((⟨#[103, 111, 32]⟩ : ByteArray) ++ bs T0 = bs A1) ∧ ((bs A1 : ByteArray) ++ ⟨#[32]⟩ = bs A2) ∧ ((bs A2 : ByteArray) ++ ⟨#[97, 112, 112, 101, 110, 100]⟩ = bs A3) ∧ ((bs A3 : ByteArray) ++ ⟨#[32]⟩ = bs A4) ∧ ((bs A4 : ByteArray) ++ ⟨#[97, 112, 112, 101, 110, 100]⟩ = bs A5) ∧ A1.length ≤ 400 ∧ A2.length ≤ 400 ∧ A3.length ≤ 400 ∧ A4.length ≤ 400 ∧ A5.length ≤ 400 ∧ At.read A5 = none := by
  have hN1 := hN.2.1
  have hb := At.bare_letters hN.1 hN.2.2
  have hl0 : T0.length ≤ 35 := by rw [h0]; simp [At.wName]; omega
  refine ⟨_, _, _, _, _, bs_append ([103, 111, 32]) (T0), bs_append (([103, 111, 32] ++ T0)) ([32]), bs_append ((([103, 111, 32] ++ T0) ++ [32])) ([97, 112, 112, 101, 110, 100]), bs_append (((([103, 111, 32] ++ T0) ++ [32]) ++ [97, 112, 112, 101, 110, 100])) ([32]), bs_append ((((([103, 111, 32] ++ T0) ++ [32]) ++ [97, 112, 112, 101, 110, 100]) ++ [32])) ([97, 112, 112, 101, 110, 100]), ?_, ?_, ?_, ?_, ?_, ?_⟩
  iterate 5 (· simp only [List.length_append, List.length_cons, List.length_nil]; omega)
  · have h := At.read_twice hb
    simp only [At.wGo, At.wName, At.wAppend, List.cons_append, List.nil_append, List.append_nil] at h
    rw [h0]
    simp only [At.wName, List.cons_append, List.nil_append, List.append_assoc]
    exact h
theorem text_four {N S : List UInt8} (hN : fewLetters N) (hS : fiveStyle S) : ∃ A1 A2 A3 A4 : List UInt8, ((⟨#[103, 111, 32, 99, 111, 109, 109, 101, 110, 116, 61, 34]⟩ : ByteArray) ++ bs S = bs A1) ∧ ((bs A1 : ByteArray) ++ ⟨#[34, 32, 110, 97, 109, 101, 61, 34]⟩ = bs A2) ∧ ((bs A2 : ByteArray) ++ bs N = bs A3) ∧ ((bs A3 : ByteArray) ++ ⟨#[34, 32, 97, 112, 112, 101, 110, 100, 32, 110, 111, 108, 105, 110, 101]⟩ = bs A4) ∧ A1.length ≤ 400 ∧ A2.length ≤ 400 ∧ A3.length ≤ 400 ∧ A4.length ≤ 400 ∧ At.read A4 = some ⟨At.wGo, N, [], S, true, true⟩ := by
  have hS1 := five_facts hS
  have hN1 := hN.2.1
  have hb := At.bare_letters hN.1 hN.2.2
  have hn := At.name_letters hN.1 (by omega) hN.2.2
  refine ⟨_, _, _, _, bs_append ([103, 111, 32, 99, 111, 109, 109, 101, 110, 116, 61, 34]) (S), bs_append (([103, 111, 32, 99, 111, 109, 109, 101, 110, 116, 61, 34] ++ S)) ([34, 32, 110, 97, 109, 101, 61, 34]), bs_append ((([103, 111, 32, 99, 111, 109, 109, 101, 110, 116, 61, 34] ++ S) ++ [34, 32, 110, 97, 109, 101, 61, 34])) (N), bs_append (((([103, 111, 32, 99, 111, 109, 109, 101, 110, 116, 61, 34] ++ S) ++ [34, 32, 110, 97, 109, 101, 61, 34]) ++ N)) ([34, 32, 97, 112, 112, 101, 110, 100, 32, 110, 111, 108, 105, 110, 101]), ?_, ?_, ?_, ?_, ?_⟩
  iterate 4 (· simp only [List.length_append, List.length_cons, List.length_nil]; omega)
  · have h := At.read_four hb hS1.1 hn hS1.2.1
    simp only [At.wGo, At.wName, At.wComment, At.wAppend, At.wNoline, List.cons_append, List.nil_append, List.append_nil] at h
    simp only [List.cons_append, List.nil_append, List.append_assoc]
    exact h
theorem text_five {N T0 T : List UInt8} (hN : fewLetters N) (h0 : T0 = At.wName ++ 61 :: N) (hT : T.length ≤ 192) : ∃ A1 A2 A3 A4 : List UInt8, ((⟨#[103, 111, 32]⟩ : ByteArray) ++ bs T0 = bs A1) ∧ ((bs A1 : ByteArray) ++ ⟨#[32]⟩ = bs A2) ∧ ((bs A2 : ByteArray) ++ bs T = bs A3) ∧ ((bs A3 : ByteArray) ++ ⟨#[61]⟩ = bs A4) ∧ A1.length ≤ 400 ∧ A2.length ≤ 400 ∧ A3.length ≤ 400 ∧ A4.length ≤ 400 ∧ At.read A4 = none := by
  have hN1 := hN.2.1
  have hl0 : T0.length ≤ 35 := by rw [h0]; simp [At.wName]; omega
  refine ⟨_, _, _, _, bs_append ([103, 111, 32]) (T0), bs_append (([103, 111, 32] ++ T0)) ([32]), bs_append ((([103, 111, 32] ++ T0) ++ [32])) (T), bs_append (((([103, 111, 32] ++ T0) ++ [32]) ++ T)) ([61]), ?_, ?_, ?_, ?_, ?_⟩
  iterate 4 (· simp only [List.length_append, List.length_cons, List.length_nil]; omega)
  · exact At.read_tail (List.getLast?_concat)

set_option maxHeartbeats 8000000 in
set_option maxRecDepth 100000 in
theorem order_any (l st ks : List UInt8) (A : Option Addr) (c : Nat) (w : World) (hR : Row w w.heap.size 1 A ks.length (bcells ks)) (hkm : ks.length ≤ 9223372036854775807) (hT : Tabs w) :
    Calls Tryd.prog 6 #[.string (bs l), .string (bs st), .slice A ks.length c] w fun e w' => e = .returned (.bool true) ∧ Below w.heap.size w w' := by
  replace hT := Lib.hid hT
  replace hR := Lib.hid hR
  go_enter Tryd.func6, Tryd.ntmps6
  go_upto_block 0 with fail
  go_cut [7] (fun v wx => ∃ N, v = .string (bs N) ∧ fewLetters N ∧ Below w.heap.size w wx)
  case first => as_aux_lemma =>
    go_wp2_with fail
    go_loopw [7] (fun u wr => ∃ (pos : Nat) (N : List UInt8), u = .string (bs N) ∧ fewLetters N ∧ Hid (wr.heap[w.heap.size]? = some (.stringIter (bs l) pos)) ∧ Below w.heap.size w wr)
      (fun _ wr => l.length - wr.iterPos w.heap.size)
    case atStart => exact ⟨0, [110], rfl, ⟨by simp, by simp, by decide⟩, Lib.hid (iter_new _ _ _ rfl), ext_alloc _ _⟩
    case round =>
      obtain ⟨pos, N, rfl, hN, hit, hb⟩ := hrel
      have hsN := bs_size N
      have hN30 := hN.2.1
      by_cases hp : pos < l.length
      · obtain ⟨x, k, hk, hv, hd, hr⟩ := rune_at hp
        have hnx := run_next_rune hit.out hp hd
        replace hd := Lib.hid hd
        replace hr := Lib.hid hr
        have hit2 := Lib.hid (Lib.iterAt_heap wr w.heap.size (bs l) pos (pos + k) hit.out)
        have hb2 := Lib.below_iterAt hb (k := w.heap.size) (Nat.le_refl _) (bs l) (pos + k)
        have hpos : Hid (wr.iterPos w.heap.size = pos) := Lib.hid (by simp only [World.iterPos, hit.out])
        have hpos2 : Hid ((wr.iterAt w.heap.size (bs l) (pos + k)).iterPos w.heap.size = pos + k) := Lib.hid (by simp only [World.iterPos, hit2.out])
        by_cases h1 : (97 : Int) ≤ (x : Int) ∧ (x : Int) ≤ 122 ∧ N.length < 30
        · obtain ⟨h1, h2, h3⟩ := h1
          obtain ⟨hm, he⟩ := few_more (x := x) hN h3 (by omega) (by omega)
          replace hm := Lib.hid hm
          have hcv := run_rune (x : Int)
          rw [he] at hcv
          have hz1 := bs_size [UInt8.ofNat x]
          have ha := bs_append N [UInt8.ofNat x]
          simp only [List.length_cons, List.length_nil] at hz1
          obtain ⟨b, hbx⟩ : ∃ b, UInt8.ofNat x = b := ⟨_, rfl⟩
          rw [hbx] at hm hcv hz1 ha
          clear he hbx
          replace hN := Lib.hid hN
          have h3' : (N.length : Int) < 30 := by omega
          go_wp2_with fail
          go_roundw
          case rel => exact ⟨pos + k, N ++ [b], rfl, hm.out, hit2, hb2⟩
          case measure => rw [hpos.out, hpos2.out]; omega
        · replace hN := Lib.hid hN
          have h4 : ¬ (97 : Int) ≤ (x : Int) ∨ ((97 : Int) ≤ (x : Int) ∧ ¬ (x : Int) ≤ 122) ∨ ((97 : Int) ≤ (x : Int) ∧ (x : Int) ≤ 122 ∧ ¬ (N.length : Int) < 30) := by omega
          clear h1
          rcases h4 with h4 | ⟨h4, h5⟩ | ⟨h4, h5, h6⟩
          all_goals
            go_wp2_with fail
            go_roundw
            case rel => exact ⟨pos + k, N, rfl, hN.out, hit2, hb2⟩
            case measure => rw [hpos.out, hpos2.out]; omega
      · have hnx := run_next_done hit.out hp
        replace hN := Lib.hid hN
        go_wp2_with fail
        go_meet
        case rel => exact ⟨N, rfl, hN.out, hb⟩
  case rest =>
    obtain ⟨N, rfl, hN, hB⟩ := hcut
    replace hN := Lib.hid hN
    replace hB := Lib.hid hB
    go_upto_if 44 with fail
    go_cut [8] (fun v wx => ∃ S, v = .string (bs S) ∧ fiveStyle S ∧ Below w.heap.size w wx)
    case first => as_aux_lemma =>
      have hz := bs_size st
      rcases st with _ | ⟨b, r⟩
      · go_wp2_with fail
        go_meet
        case rel => exact ⟨[35], rfl, .inl rfl, hB.out⟩
      · have hx := run_byte (S := b :: r) (i := 0) (by simp)
        rw [List.getElem_cons_zero] at hx
        have hz0 : 0 < (bs (b :: r)).size := by rw [bs_size]; simp
        rw [show ((0 : Nat) : Int) = 0 from rfl] at hx
        have hbz : wc.heap.size ≤ wc.heap.size := Nat.le_refl _
        have hBa := fun o => Lib.hid (hB.out.alloc hB.out.size o)
        rcases three_ways b with h | h | h | h
        all_goals
          go_wp2_with fail
          go_meet
          case rel => first
            | exact ⟨[47, 47], rfl, .inr (.inl rfl), (hBa _).out⟩
            | exact ⟨[59], rfl, .inr (.inr (.inl rfl)), (hBa _).out⟩
            | exact ⟨[45, 45], rfl, .inr (.inr (.inr (.inl rfl))), (hBa _).out⟩
            | exact ⟨[37], rfl, .inr (.inr (.inr (.inr rfl))), (hBa _).out⟩
    case rest =>
      obtain ⟨S, rfl, hS, hB2⟩ := hcut
      have q0 : (⟨#[110, 97, 109, 101, 61]⟩ : ByteArray) ++ bs N = bs (At.wName ++ 61 :: N) := (bs_append [110, 97, 109, 101, 61] N)
      have q1 : (⟨#[99, 111, 109, 109, 101, 110, 116, 61]⟩ : ByteArray) ++ bs S = bs (At.wComment ++ 61 :: S) := (bs_append [99, 111, 109, 109, 101, 110, 116, 61] S)
      have zN := bs_size N
      have zS := bs_size S
      have lN := hN.out.2.1
      have lS := (five_facts hS).2.2
      have l0 : (At.wName ++ 61 :: N).length ≤ 400 := by simp [At.wName]; omega
      have l1 : (At.wComment ++ 61 :: S).length ≤ 400 := by simp [At.wComment]; omega
      obtain ⟨T0, h0⟩ : ∃ T, T = At.wName ++ 61 :: N := ⟨_, rfl⟩
      obtain ⟨T1, h1⟩ : ∃ T, T = At.wComment ++ 61 :: S := ⟨_, rfl⟩
      rw [← h0] at q0 l0
      rw [← h1] at q1 l1
      have hml := md_all ks
      have hmd := fun w h => made_fn ks A c w h hkm
      obtain ⟨T, hTT⟩ : ∃ T, md 24 ks = T := ⟨_, rfl⟩
      rw [hTT] at hml hmd
      clear hTT
      have c1 := Lib.hid (text_one hN.out hS h0 h1)
      have c2 := Lib.hid (text_two hN.out hS h0 h1)
      have c3 := Lib.hid (text_three hN.out h0)
      have c4 := Lib.hid (text_four hN.out hS)
      have c5 := Lib.hid (text_five hN.out h0 hml)
      have z0 := bs_size T0
      have z1 := bs_size T1
      have zT := bs_size T
      replace hB2 := Lib.hid hB2
      clear h0 h1 hS hN
      have hp := Lib.hid (heap_alloc_new wc (.cells #[.string (bs T0), .string (bs T1), .string ⟨#[97, 112, 112, 101, 110, 100]⟩, .string ⟨#[110, 111, 108, 105, 110, 101]⟩] 9))
      have hBp := Lib.hid (hB2.out.alloc hB2.out.size (.cells #[.string (bs T0), .string (bs T1), .string ⟨#[97, 112, 112, 101, 110, 100]⟩, .string ⟨#[110, 111, 108, 105, 110, 101]⟩] 9))
      go_upto_region 10 with fail
      obtain ⟨wp, hwp⟩ : ∃ wp, wc.alloc (.cells #[.string (bs T0), .string (bs T1), .string ⟨#[97, 112, 112, 101, 110, 100]⟩, .string ⟨#[110, 111, 108, 105, 110, 101]⟩] 9) = wp := ⟨_, rfl⟩
      obtain ⟨g, hg⟩ : ∃ g, wc.heap.size = g := ⟨_, rfl⟩
      rw [hwp] at hp hBp ⊢
      rw [hg] at hp ⊢
      clear hwp hg hB2 hB q0 q1

      -- region 10
      obtain ⟨A1, A2, A3, A4, A5, A6, A7, e1, e2, e3, e4, e5, e6, e7, l1', l2', l3', l4', l5', l6', l7', hrd⟩ := c1.out
      have s1 := bs_size A1
      have s2 := bs_size A2
      have s3 := bs_size A3
      have s4 := bs_size A4
      have s5 := bs_size A5
      have s6 := bs_size A6
      have s7 := bs_size A7
      have n1 : ¬ 9223372036854775807 < 3 + T0.length := by omega
      have n2 : ¬ 9223372036854775807 < A1.length + 1 := by omega
      have n3 : ¬ 9223372036854775807 < A2.length + T1.length := by omega
      have n4 : ¬ 9223372036854775807 < A3.length + 1 := by omega
      have n5 : ¬ 9223372036854775807 < A4.length + 6 := by omega
      have n6 : ¬ 9223372036854775807 < A5.length + 1 := by omega
      have n7 : ¬ 9223372036854775807 < A6.length + 6 := by omega
      have hr := fun w h => pread_any A7 w (by omega) h
      rw [hrd] at hr
      change ∀ w, Tabs w → Calls Tryd.prog 12 #[.string (bs A7)] w (fun e w' => e = .returned (.tuple #[.agg #[.string ⟨#[103, 111]⟩, .string (bs N), .string ⟨#[]⟩, .string (bs S), .bool true, .bool true], .bool true]) ∧ Below w.heap.size w w') at hr
      clear hrd
      go_cut [12, 13] (fun v u wx => ∃ k, v = .pointer (some ⟨k, 0, none⟩) ∧ u = .bool true ∧ AtBlk wx k ⟨At.wGo, N, [], S, true, true⟩ ∧ Below wp.heap.size wp wx)
      case first => as_aux_lemma =>
        have hTp := tabs_ext hT.out hBp.out
        refine wp_region_tree (.rd 0 (.rd 1 (.rd 2 (.rd 3 (.rd 4 (.rd 5 (.rd 6 (.rd 7 (.rd 8 (.rd 9 (.rd 10 (.rd 11 (.rd 12 (.rd 13 (.rd 14 (.rd 15 (.rd 16 (.rd 17 (.rd 18 (.fk 19 (.rd 20 (.rd 21 (.rd 22 (.mk 23 (.mk 24 (.rd 25 .fin)))))) 23 (.mk 19 (.rd 20 (.rd 21 (.rd 22 (.mk 24 (.rd 25 .fin)))))))))))))))))))))))))) (fun u => u.heap[g]? = some (.cells #[.string (bs T0), .string (bs T1), .string ⟨#[97, 112, 112, 101, 110, 100]⟩, .string ⟨#[110, 111, 108, 105, 110, 101]⟩] 9)) hp.out (by kernel_rfl) (by kernel_rfl) (by kernel_rfl) (fun _ _ d _ _ h => by cases d <;> exact h) ?_
        repeat (first | refine wpT_move rfl ?_ | (refine wpT_rd rfl ?_; intro K hK; go_simp; refine hK _ _ _ ?_; clear hK K))
        refine wpT_read (.string (bs T0)) rfl rfl hp.out (fun u hu => by obtain ⟨y0, y1, y2, y3⟩ := four hu; go_simp) ?_
        repeat (first | refine wpT_move rfl ?_ | (refine wpT_rd rfl ?_; intro K hK; go_simp; refine hK _ _ _ ?_; clear hK K))
        refine wpT_read (.string (bs T1)) rfl rfl hp.out (fun u hu => by obtain ⟨y0, y1, y2, y3⟩ := four hu; go_simp) ?_
        repeat (first | refine wpT_move rfl ?_ | (refine wpT_rd rfl ?_; intro K hK; go_simp; refine hK _ _ _ ?_; clear hK K))
        refine wpT_read (.string ⟨#[97, 112, 112, 101, 110, 100]⟩) rfl rfl hp.out (fun u hu => by obtain ⟨y0, y1, y2, y3⟩ := four hu; go_simp) ?_
        repeat (first | refine wpT_move rfl ?_ | (refine wpT_rd rfl ?_; intro K hK; go_simp; refine hK _ _ _ ?_; clear hK K))
        refine wpT_read (.string ⟨#[110, 111, 108, 105, 110, 101]⟩) rfl rfl hp.out (fun u hu => by obtain ⟨y0, y1, y2, y3⟩ := four hu; go_simp) ?_
        repeat (first | refine wpT_move rfl ?_ | (refine wpT_rd rfl ?_; intro K hK; go_simp; refine hK _ _ _ ?_; clear hK K))
        refine wpT_fk ?_ ?_
        · refine wpT_mk rfl ?_
          intro K hK
          go_simp
          refine (hr _ (tabs_ext hTp (ext_drew _))).mono ?_
          rintro e w2 ⟨rfl, hb2⟩
          replace hb2 := ext_trans (ext_drew wp) hb2
          refine can_same (S := (fun u => u.heap[g]? = some (.cells #[.string (bs T0), .string (bs T1), .string ⟨#[97, 112, 112, 101, 110, 100]⟩, .string ⟨#[110, 111, 108, 105, 110, 101]⟩] 9))) (keep hp.out hb2).1 (hK _ _ _ ?_)
          clear hK K
          repeat (first | refine wpT_move rfl ?_ | (refine wpT_rd rfl ?_; intro K hK; go_simp; refine hK _ _ _ ?_; clear hK K))
          refine wpT_mk rfl ?_
          intro K hK
          go_simp
          refine can_same (S := (fun u => u.heap[g]? = some (.cells #[.string (bs T0), .string (bs T1), .string ⟨#[97, 112, 112, 101, 110, 100]⟩, .string ⟨#[110, 111, 108, 105, 110, 101]⟩] 9))) (keep (keep hp.out hb2).1 (ext_alloc _ _)).1 (hK _ _ _ ?_)
          clear hK K
          refine wpT_mk rfl ?_
          intro K hK
          go_simp
          refine can_same (S := (fun u => u.heap[g]? = some (.cells #[.string (bs T0), .string (bs T1), .string ⟨#[97, 112, 112, 101, 110, 100]⟩, .string ⟨#[110, 111, 108, 105, 110, 101]⟩] 9))) (keep (keep hp.out hb2).1 (ext_alloc _ _)).1 (hK _ _ _ ?_)
          clear hK K
          repeat (first | refine wpT_move rfl ?_ | (refine wpT_rd rfl ?_; intro K hK; go_simp; refine hK _ _ _ ?_; clear hK K))
          refine wpT_fin ?_
          go_wp2_with fail
          go_meet
          case rel => exact ⟨_, rfl, rfl, heap_alloc_new w2 _, ext_trans hb2 (ext_alloc _ _)⟩
        · refine wpT_mk rfl ?_
          intro K hK
          go_simp
          refine can_same (S := (fun u => u.heap[g]? = some (.cells #[.string (bs T0), .string (bs T1), .string ⟨#[97, 112, 112, 101, 110, 100]⟩, .string ⟨#[110, 111, 108, 105, 110, 101]⟩] 9))) (keep hp.out (ext_alloc _ _)).1 (hK _ _ _ ?_)
          clear hK K
          refine wpT_mk rfl ?_
          intro K hK
          go_simp
          refine (hr _ (tabs_ext hTp (ext_trans (ext_drew _) (ext_alloc _ _)))).mono ?_
          rintro e w2 ⟨rfl, hb2⟩
          have hz : w2.heap[wp.heap.size]? = some (.cells #[.string ⟨#[]⟩, .string ⟨#[]⟩, .string ⟨#[]⟩, .string ⟨#[]⟩, .bool false, .bool false] 27) := (keep (heap_alloc_new wp.drew (.cells #[.string ⟨#[]⟩, .string ⟨#[]⟩, .string ⟨#[]⟩, .string ⟨#[]⟩, .bool false, .bool false] 27)) hb2).1
          have hne : g ≠ wp.heap.size := Nat.ne_of_lt (Array.getElem?_eq_some_iff.1 hp.out).1
          have hp2 := (keep (keep (w := wp.drew) hp.out (ext_alloc wp.drew (.cells #[.string ⟨#[]⟩, .string ⟨#[]⟩, .string ⟨#[]⟩, .string ⟨#[]⟩, .bool false, .bool false] 27))).1 hb2).1
          replace hb2 := ext_trans (ext_trans (ext_drew wp) (ext_alloc wp.drew (.cells #[.string ⟨#[]⟩, .string ⟨#[]⟩, .string ⟨#[]⟩, .string ⟨#[]⟩, .bool false, .bool false] 27))) hb2
          refine can_same (S := (fun u => u.heap[g]? = some (.cells #[.string (bs T0), .string (bs T1), .string ⟨#[97, 112, 112, 101, 110, 100]⟩, .string ⟨#[110, 111, 108, 105, 110, 101]⟩] 9))) hp2 (hK _ _ _ ?_)
          clear hK K
          repeat (first | refine wpT_move rfl ?_ | (refine wpT_rd rfl ?_; intro K hK; go_simp; refine hK _ _ _ ?_; clear hK K))
          obtain ⟨y0, y1, y2, y3, y4, y5⟩ := six hz
          have yf := blk_free hz
          refine wpT_mk rfl ?_
          intro K hK
          go_simp
          refine can_same (S := (fun u => u.heap[g]? = some (.cells #[.string (bs T0), .string (bs T1), .string ⟨#[97, 112, 112, 101, 110, 100]⟩, .string ⟨#[110, 111, 108, 105, 110, 101]⟩] 9))) ((set_six hne _ _ _ _ _ _).trans hp2) (hK _ _ _ ?_)
          clear hK K
          repeat (first | refine wpT_move rfl ?_ | (refine wpT_rd rfl ?_; intro K hK; go_simp; refine hK _ _ _ ?_; clear hK K))
          refine wpT_fin ?_
          go_wp2_with fail
          go_meet
          case rel => exact ⟨_, rfl, rfl, set_six_same hz _ _ _ _ _ _, below_six hb2 (Nat.le_refl _) _ _ _ _ _ _⟩
      case rest =>
      obtain ⟨g1, rfl, rfl, hq1, hbx⟩ := hcut
      replace hq1 : Hid (wc.heap[g1]? = some (.cells #[.string ⟨#[103, 111]⟩, .string (bs N), .string ⟨#[]⟩, .string (bs S), .bool true, .bool true] 27)) := Lib.hid hq1
      replace hBp := Lib.hid (ext_trans hBp.out hbx)
      replace hp := Lib.hid (keep hp.out hbx).1
      clear hbx
      clear hr e1 l1' s1 n1 e2 l2' s2 n2 e3 l3' s3 n3 e4 l4' s4 n4 e5 l5' s5 n5 e6 l6' s6 n6 e7 l7' s7 n7
      clear wp
      obtain ⟨wp, rfl⟩ : ∃ wp : World, wp = wc := ⟨_, rfl⟩
      go_upto_region 11 with fail
      -- region 11
      obtain ⟨A1, A2, A3, A4, A5, A6, A7, A8, e1, e2, e3, e4, e5, e6, e7, e8, l1', l2', l3', l4', l5', l6', l7', l8', hrd⟩ := c2.out
      have s1 := bs_size A1
      have s2 := bs_size A2
      have s3 := bs_size A3
      have s4 := bs_size A4
      have s5 := bs_size A5
      have s6 := bs_size A6
      have s7 := bs_size A7
      have s8 := bs_size A8
      have n1 : ¬ 9223372036854775807 < 4 + 6 := by omega
      have n2 : ¬ 9223372036854775807 < A1.length + 1 := by omega
      have n3 : ¬ 9223372036854775807 < A2.length + T1.length := by omega
      have n4 : ¬ 9223372036854775807 < A3.length + 1 := by omega
      have n5 : ¬ 9223372036854775807 < A4.length + 6 := by omega
      have n6 : ¬ 9223372036854775807 < A5.length + 1 := by omega
      have n7 : ¬ 9223372036854775807 < A6.length + T0.length := by omega
      have n8 : ¬ 9223372036854775807 < A7.length + 1 := by omega
      have hr := fun w h => pread_any A8 w (by omega) h
      rw [hrd] at hr
      change ∀ w, Tabs w → Calls Tryd.prog 12 #[.string (bs A8)] w (fun e w' => e = .returned (.tuple #[.agg #[.string ⟨#[103, 111]⟩, .string (bs N), .string ⟨#[]⟩, .string (bs S), .bool true, .bool true], .bool true]) ∧ Below w.heap.size w w') at hr
      clear hrd
      go_cut [14, 15] (fun v u wx => ∃ k, v = .pointer (some ⟨k, 0, none⟩) ∧ u = .bool true ∧ AtBlk wx k ⟨At.wGo, N, [], S, true, true⟩ ∧ Below wp.heap.size wp wx)
      case first => as_aux_lemma =>
        have hTp := tabs_ext hT.out hBp.out
        refine wp_region_tree (.rd 0 (.rd 1 (.rd 2 (.rd 3 (.rd 4 (.rd 5 (.rd 6 (.rd 7 (.rd 8 (.rd 9 (.rd 10 (.rd 11 (.rd 12 (.rd 13 (.rd 14 (.rd 15 (.rd 16 (.rd 17 (.rd 18 (.rd 19 (.fk 20 (.rd 21 (.rd 22 (.rd 23 (.mk 24 (.mk 25 (.rd 26 .fin)))))) 24 (.mk 20 (.rd 21 (.rd 22 (.rd 23 (.mk 25 (.rd 26 .fin))))))))))))))))))))))))))) (fun u => u.heap[g]? = some (.cells #[.string (bs T0), .string (bs T1), .string ⟨#[97, 112, 112, 101, 110, 100]⟩, .string ⟨#[110, 111, 108, 105, 110, 101]⟩] 9)) hp.out (by kernel_rfl) (by kernel_rfl) (by kernel_rfl) (fun _ _ d _ _ h => by cases d <;> exact h) ?_
        repeat (first | refine wpT_move rfl ?_ | (refine wpT_rd rfl ?_; intro K hK; go_simp; refine hK _ _ _ ?_; clear hK K))
        refine wpT_read (.string ⟨#[110, 111, 108, 105, 110, 101]⟩) rfl rfl hp.out (fun u hu => by obtain ⟨y0, y1, y2, y3⟩ := four hu; go_simp) ?_
        repeat (first | refine wpT_move rfl ?_ | (refine wpT_rd rfl ?_; intro K hK; go_simp; refine hK _ _ _ ?_; clear hK K))
        refine wpT_read (.string (bs T1)) rfl rfl hp.out (fun u hu => by obtain ⟨y0, y1, y2, y3⟩ := four hu; go_simp) ?_
        repeat (first | refine wpT_move rfl ?_ | (refine wpT_rd rfl ?_; intro K hK; go_simp; refine hK _ _ _ ?_; clear hK K))
        refine wpT_read (.string ⟨#[97, 112, 112, 101, 110, 100]⟩) rfl rfl hp.out (fun u hu => by obtain ⟨y0, y1, y2, y3⟩ := four hu; go_simp) ?_
        repeat (first | refine wpT_move rfl ?_ | (refine wpT_rd rfl ?_; intro K hK; go_simp; refine hK _ _ _ ?_; clear hK K))
        refine wpT_read (.string (bs T0)) rfl rfl hp.out (fun u hu => by obtain ⟨y0, y1, y2, y3⟩ := four hu; go_simp) ?_
        repeat (first | refine wpT_move rfl ?_ | (refine wpT_rd rfl ?_; intro K hK; go_simp; refine hK _ _ _ ?_; clear hK K))
        refine wpT_fk ?_ ?_
        · refine wpT_mk rfl ?_
          intro K hK
          go_simp
          refine (hr _ (tabs_ext hTp (ext_drew _))).mono ?_
          rintro e w2 ⟨rfl, hb2⟩
          replace hb2 := ext_trans (ext_drew wp) hb2
          refine can_same (S := (fun u => u.heap[g]? = some (.cells #[.string (bs T0), .string (bs T1), .string ⟨#[97, 112, 112, 101, 110, 100]⟩, .string ⟨#[110, 111, 108, 105, 110, 101]⟩] 9))) (keep hp.out hb2).1 (hK _ _ _ ?_)
          clear hK K
          repeat (first | refine wpT_move rfl ?_ | (refine wpT_rd rfl ?_; intro K hK; go_simp; refine hK _ _ _ ?_; clear hK K))
          refine wpT_mk rfl ?_
          intro K hK
          go_simp
          refine can_same (S := (fun u => u.heap[g]? = some (.cells #[.string (bs T0), .string (bs T1), .string ⟨#[97, 112, 112, 101, 110, 100]⟩, .string ⟨#[110, 111, 108, 105, 110, 101]⟩] 9))) (keep (keep hp.out hb2).1 (ext_alloc _ _)).1 (hK _ _ _ ?_)
          clear hK K
          refine wpT_mk rfl ?_
          intro K hK
          go_simp
          refine can_same (S := (fun u => u.heap[g]? = some (.cells #[.string (bs T0), .string (bs T1), .string ⟨#[97, 112, 112, 101, 110, 100]⟩, .string ⟨#[110, 111, 108, 105, 110, 101]⟩] 9))) (keep (keep hp.out hb2).1 (ext_alloc _ _)).1 (hK _ _ _ ?_)
          clear hK K
          repeat (first | refine wpT_move rfl ?_ | (refine wpT_rd rfl ?_; intro K hK; go_simp; refine hK _ _ _ ?_; clear hK K))
          refine wpT_fin ?_
          go_wp2_with fail
          go_meet
          case rel => exact ⟨_, rfl, rfl, heap_alloc_new w2 _, ext_trans hb2 (ext_alloc _ _)⟩
        · refine wpT_mk rfl ?_
          intro K hK
          go_simp
          refine can_same (S := (fun u => u.heap[g]? = some (.cells #[.string (bs T0), .string (bs T1), .string ⟨#[97, 112, 112, 101, 110, 100]⟩, .string ⟨#[110, 111, 108, 105, 110, 101]⟩] 9))) (keep hp.out (ext_alloc _ _)).1 (hK _ _ _ ?_)
          clear hK K
          refine wpT_mk rfl ?_
          intro K hK
          go_simp
          refine (hr _ (tabs_ext hTp (ext_trans (ext_drew _) (ext_alloc _ _)))).mono ?_
          rintro e w2 ⟨rfl, hb2⟩
          have hz : w2.heap[wp.heap.size]? = some (.cells #[.string ⟨#[]⟩, .string ⟨#[]⟩, .string ⟨#[]⟩, .string ⟨#[]⟩, .bool false, .bool false] 27) := (keep (heap_alloc_new wp.drew (.cells #[.string ⟨#[]⟩, .string ⟨#[]⟩, .string ⟨#[]⟩, .string ⟨#[]⟩, .bool false, .bool false] 27)) hb2).1
          have hne : g ≠ wp.heap.size := Nat.ne_of_lt (Array.getElem?_eq_some_iff.1 hp.out).1
          have hp2 := (keep (keep (w := wp.drew) hp.out (ext_alloc wp.drew (.cells #[.string ⟨#[]⟩, .string ⟨#[]⟩, .string ⟨#[]⟩, .string ⟨#[]⟩, .bool false, .bool false] 27))).1 hb2).1
          replace hb2 := ext_trans (ext_trans (ext_drew wp) (ext_alloc wp.drew (.cells #[.string ⟨#[]⟩, .string ⟨#[]⟩, .string ⟨#[]⟩, .string ⟨#[]⟩, .bool false, .bool false] 27))) hb2
          refine can_same (S := (fun u => u.heap[g]? = some (.cells #[.string (bs T0), .string (bs T1), .string ⟨#[97, 112, 112, 101, 110, 100]⟩, .string ⟨#[110, 111, 108, 105, 110, 101]⟩] 9))) hp2 (hK _ _ _ ?_)
          clear hK K
          repeat (first | refine wpT_move rfl ?_ | (refine wpT_rd rfl ?_; intro K hK; go_simp; refine hK _ _ _ ?_; clear hK K))
          obtain ⟨y0, y1, y2, y3, y4, y5⟩ := six hz
          have yf := blk_free hz
          refine wpT_mk rfl ?_
          intro K hK
          go_simp
          refine can_same (S := (fun u => u.heap[g]? = some (.cells #[.string (bs T0), .string (bs T1), .string ⟨#[97, 112, 112, 101, 110, 100]⟩, .string ⟨#[110, 111, 108, 105, 110, 101]⟩] 9))) ((set_six hne _ _ _ _ _ _).trans hp2) (hK _ _ _ ?_)
          clear hK K
          repeat (first | refine wpT_move rfl ?_ | (refine wpT_rd rfl ?_; intro K hK; go_simp; refine hK _ _ _ ?_; clear hK K))
          refine wpT_fin ?_
          go_wp2_with fail
          go_meet
          case rel => exact ⟨_, rfl, rfl, set_six_same hz _ _ _ _ _ _, below_six hb2 (Nat.le_refl _) _ _ _ _ _ _⟩
      case rest =>
      obtain ⟨g2, rfl, rfl, hq2, hbx⟩ := hcut
      replace hq1 := Lib.hid (keep hq1.out hbx).1
      replace hq2 : Hid (wc.heap[g2]? = some (.cells #[.string ⟨#[103, 111]⟩, .string (bs N), .string ⟨#[]⟩, .string (bs S), .bool true, .bool true] 27)) := Lib.hid hq2
      replace hBp := Lib.hid (ext_trans hBp.out hbx)
      replace hp := Lib.hid (keep hp.out hbx).1
      clear hbx
      clear hr e1 l1' s1 n1 e2 l2' s2 n2 e3 l3' s3 n3 e4 l4' s4 n4 e5 l5' s5 n5 e6 l6' s6 n6 e7 l7' s7 n7 e8 l8' s8 n8
      clear wp
      obtain ⟨wp, rfl⟩ : ∃ wp : World, wp = wc := ⟨_, rfl⟩
      go_upto_region 12 with fail
      -- region 12
      obtain ⟨A1, A2, A3, A4, A5, e1, e2, e3, e4, e5, l1', l2', l3', l4', l5', hrd⟩ := c3.out
      have s1 := bs_size A1
      have s2 := bs_size A2
      have s3 := bs_size A3
      have s4 := bs_size A4
      have s5 := bs_size A5
      have n1 : ¬ 9223372036854775807 < 3 + T0.length := by omega
      have n2 : ¬ 9223372036854775807 < A1.length + 1 := by omega
      have n3 : ¬ 9223372036854775807 < A2.length + 6 := by omega
      have n4 : ¬ 9223372036854775807 < A3.length + 1 := by omega
      have n5 : ¬ 9223372036854775807 < A4.length + 6 := by omega
      have hr := fun w h => pread_any A5 w (by omega) h
      rw [hrd] at hr
      change ∀ w, Tabs w → Calls Tryd.prog 12 #[.string (bs A5)] w (fun e w' => e = .returned (.tuple #[.agg #[.string ⟨#[]⟩, .string ⟨#[]⟩, .string ⟨#[]⟩, .string ⟨#[]⟩, .bool false, .bool false], .bool false]) ∧ Below w.heap.size w w') at hr
      clear hrd
      go_cut [17] (fun u wx => u = .bool false ∧ Below wp.heap.size wp wx)
      case first => as_aux_lemma =>
        have hTp := tabs_ext hT.out hBp.out
        refine wp_region_tree (.rd 0 (.rd 1 (.rd 2 (.rd 3 (.rd 4 (.rd 5 (.rd 6 (.rd 7 (.rd 8 (.rd 9 (.rd 10 (.rd 11 (.rd 12 (.rd 13 (.fk 14 (.rd 15 (.rd 16 (.rd 17 (.mk 18 (.mk 19 (.rd 20 .fin)))))) 18 (.mk 14 (.rd 15 (.rd 16 (.rd 17 (.mk 19 (.rd 20 .fin))))))))))))))))))))) (fun u => u.heap[g]? = some (.cells #[.string (bs T0), .string (bs T1), .string ⟨#[97, 112, 112, 101, 110, 100]⟩, .string ⟨#[110, 111, 108, 105, 110, 101]⟩] 9)) hp.out (by kernel_rfl) (by kernel_rfl) (by kernel_rfl) (fun _ _ d _ _ h => by cases d <;> exact h) ?_
        repeat (first | refine wpT_move rfl ?_ | (refine wpT_rd rfl ?_; intro K hK; go_simp; refine hK _ _ _ ?_; clear hK K))
        refine wpT_read (.string (bs T0)) rfl rfl hp.out (fun u hu => by obtain ⟨y0, y1, y2, y3⟩ := four hu; go_simp) ?_
        repeat (first | refine wpT_move rfl ?_ | (refine wpT_rd rfl ?_; intro K hK; go_simp; refine hK _ _ _ ?_; clear hK K))
        refine wpT_read (.string ⟨#[97, 112, 112, 101, 110, 100]⟩) rfl rfl hp.out (fun u hu => by obtain ⟨y0, y1, y2, y3⟩ := four hu; go_simp) ?_
        repeat (first | refine wpT_move rfl ?_ | (refine wpT_rd rfl ?_; intro K hK; go_simp; refine hK _ _ _ ?_; clear hK K))
        refine wpT_read (.string ⟨#[97, 112, 112, 101, 110, 100]⟩) rfl rfl hp.out (fun u hu => by obtain ⟨y0, y1, y2, y3⟩ := four hu; go_simp) ?_
        repeat (first | refine wpT_move rfl ?_ | (refine wpT_rd rfl ?_; intro K hK; go_simp; refine hK _ _ _ ?_; clear hK K))
        refine wpT_fk ?_ ?_
        · refine wpT_mk rfl ?_
          intro K hK
          go_simp
          refine (hr _ (tabs_ext hTp (ext_drew _))).mono ?_
          rintro e w2 ⟨rfl, hb2⟩
          replace hb2 := ext_trans (ext_drew wp) hb2
          refine can_same (S := (fun u => u.heap[g]? = some (.cells #[.string (bs T0), .string (bs T1), .string ⟨#[97, 112, 112, 101, 110, 100]⟩, .string ⟨#[110, 111, 108, 105, 110, 101]⟩] 9))) (keep hp.out hb2).1 (hK _ _ _ ?_)
          clear hK K
          repeat (first | refine wpT_move rfl ?_ | (refine wpT_rd rfl ?_; intro K hK; go_simp; refine hK _ _ _ ?_; clear hK K))
          refine wpT_mk rfl ?_
          intro K hK
          go_simp
          refine can_same (S := (fun u => u.heap[g]? = some (.cells #[.string (bs T0), .string (bs T1), .string ⟨#[97, 112, 112, 101, 110, 100]⟩, .string ⟨#[110, 111, 108, 105, 110, 101]⟩] 9))) (keep (keep hp.out hb2).1 (ext_alloc _ _)).1 (hK _ _ _ ?_)
          clear hK K
          refine wpT_mk rfl ?_
          intro K hK
          go_simp
          refine can_same (S := (fun u => u.heap[g]? = some (.cells #[.string (bs T0), .string (bs T1), .string ⟨#[97, 112, 112, 101, 110, 100]⟩, .string ⟨#[110, 111, 108, 105, 110, 101]⟩] 9))) (keep (keep hp.out hb2).1 (ext_alloc _ _)).1 (hK _ _ _ ?_)
          clear hK K
          repeat (first | refine wpT_move rfl ?_ | (refine wpT_rd rfl ?_; intro K hK; go_simp; refine hK _ _ _ ?_; clear hK K))
          refine wpT_fin ?_
          go_wp2_with fail
          go_meet
          case rel => exact ⟨rfl, ext_trans hb2 (ext_alloc _ _)⟩
        · refine wpT_mk rfl ?_
          intro K hK
          go_simp
          refine can_same (S := (fun u => u.heap[g]? = some (.cells #[.string (bs T0), .string (bs T1), .string ⟨#[97, 112, 112, 101, 110, 100]⟩, .string ⟨#[110, 111, 108, 105, 110, 101]⟩] 9))) (keep hp.out (ext_alloc _ _)).1 (hK _ _ _ ?_)
          clear hK K
          refine wpT_mk rfl ?_
          intro K hK
          go_simp
          refine (hr _ (tabs_ext hTp (ext_trans (ext_drew _) (ext_alloc _ _)))).mono ?_
          rintro e w2 ⟨rfl, hb2⟩
          have hz : w2.heap[wp.heap.size]? = some (.cells #[.string ⟨#[]⟩, .string ⟨#[]⟩, .string ⟨#[]⟩, .string ⟨#[]⟩, .bool false, .bool false] 27) := (keep (heap_alloc_new wp.drew (.cells #[.string ⟨#[]⟩, .string ⟨#[]⟩, .string ⟨#[]⟩, .string ⟨#[]⟩, .bool false, .bool false] 27)) hb2).1
          have hne : g ≠ wp.heap.size := Nat.ne_of_lt (Array.getElem?_eq_some_iff.1 hp.out).1
          have hp2 := (keep (keep (w := wp.drew) hp.out (ext_alloc wp.drew (.cells #[.string ⟨#[]⟩, .string ⟨#[]⟩, .string ⟨#[]⟩, .string ⟨#[]⟩, .bool false, .bool false] 27))).1 hb2).1
          replace hb2 := ext_trans (ext_trans (ext_drew wp) (ext_alloc wp.drew (.cells #[.string ⟨#[]⟩, .string ⟨#[]⟩, .string ⟨#[]⟩, .string ⟨#[]⟩, .bool false, .bool false] 27))) hb2
          refine can_same (S := (fun u => u.heap[g]? = some (.cells #[.string (bs T0), .string (bs T1), .string ⟨#[97, 112, 112, 101, 110, 100]⟩, .string ⟨#[110, 111, 108, 105, 110, 101]⟩] 9))) hp2 (hK _ _ _ ?_)
          clear hK K
          repeat (first | refine wpT_move rfl ?_ | (refine wpT_rd rfl ?_; intro K hK; go_simp; refine hK _ _ _ ?_; clear hK K))
          obtain ⟨y0, y1, y2, y3, y4, y5⟩ := six hz
          have yf := blk_free hz
          refine wpT_mk rfl ?_
          intro K hK
          go_simp
          refine can_same (S := (fun u => u.heap[g]? = some (.cells #[.string (bs T0), .string (bs T1), .string ⟨#[97, 112, 112, 101, 110, 100]⟩, .string ⟨#[110, 111, 108, 105, 110, 101]⟩] 9))) ((set_six hne _ _ _ _ _ _).trans hp2) (hK _ _ _ ?_)
          clear hK K
          repeat (first | refine wpT_move rfl ?_ | (refine wpT_rd rfl ?_; intro K hK; go_simp; refine hK _ _ _ ?_; clear hK K))
          refine wpT_fin ?_
          go_wp2_with fail
          go_meet
          case rel => exact ⟨rfl, below_six hb2 (Nat.le_refl _) _ _ _ _ _ _⟩
      case rest =>
      obtain ⟨rfl, hbx⟩ := hcut
      replace hq1 := Lib.hid (keep hq1.out hbx).1
      replace hq2 := Lib.hid (keep hq2.out hbx).1
      replace hBp := Lib.hid (ext_trans hBp.out hbx)
      replace hp := Lib.hid (keep hp.out hbx).1
      clear hbx
      clear hr e1 l1' s1 n1 e2 l2' s2 n2 e3 l3' s3 n3 e4 l4' s4 n4 e5 l5' s5 n5
      clear wp
      obtain ⟨wp, rfl⟩ : ∃ wp : World, wp = wc := ⟨_, rfl⟩
      obtain ⟨A1, A2, A3, A4, e1, e2, e3, e4, l1', l2', l3', l4', hrd⟩ := c4.out
      have s1 := bs_size A1
      have s2 := bs_size A2
      have s3 := bs_size A3
      have s4 := bs_size A4
      have n1 : ¬ 9223372036854775807 < 12 + S.length := by omega
      have n2 : ¬ 9223372036854775807 < A1.length + 8 := by omega
      have n3 : ¬ 9223372036854775807 < A2.length + N.length := by omega
      have n4 : ¬ 9223372036854775807 < A3.length + 15 := by omega
      have hr := fun w h => pread_any A4 w (by omega) h
      rw [hrd] at hr
      change ∀ w, Tabs w → Calls Tryd.prog 12 #[.string (bs A4)] w (fun e w' => e = .returned (.tuple #[.agg #[.string ⟨#[103, 111]⟩, .string (bs N), .string ⟨#[]⟩, .string (bs S), .bool true, .bool true], .bool true]) ∧ Below w.heap.size w w') at hr
      clear hrd
      go_wp2_with fail
      refine (hr _ (tabs_ext hT.out hBp.out)).mono ?_
      rintro e w3 ⟨rfl, hb3⟩
      replace hb3 := ext_trans hb3 (ext_alloc w3 (.cells #[.string ⟨#[103, 111]⟩, .string (bs N), .string ⟨#[]⟩, .string (bs S), .bool true, .bool true] 27))
      have hq3 := Lib.hid (heap_alloc_new w3 (.cells #[.string ⟨#[103, 111]⟩, .string (bs N), .string ⟨#[]⟩, .string (bs S), .bool true, .bool true] 27))
      replace hq1 := Lib.hid (keep hq1.out hb3).1
      replace hq2 := Lib.hid (keep hq2.out hb3).1
      replace hBp := Lib.hid (ext_trans hBp.out hb3)
      replace hp := Lib.hid (keep hp.out hb3).1
      clear hb3
      clear hr e1 l1' s1 n1 e2 l2' s2 n2 e3 l3' s3 n3 e4 l4' s4 n4
      go_upto_region 14 with fail
      obtain ⟨g3, hg3⟩ : ∃ g, w3.heap.size = g := ⟨_, rfl⟩
      clear wp
      obtain ⟨wp, hwp⟩ : ∃ wp, w3.alloc (.cells #[.string ⟨#[103, 111]⟩, .string (bs N), .string ⟨#[]⟩, .string (bs S), .bool true, .bool true] 27) = wp := ⟨_, rfl⟩
      rw [hwp] at hq1 hq2 hq3 hBp hp ⊢
      rw [hg3] at hq3 ⊢
      clear hwp hg3
      obtain ⟨A1, A2, A3, A4, e1, e2, e3, e4, l1', l2', l3', l4', hrd⟩ := c5.out
      have s1 := bs_size A1
      have s2 := bs_size A2
      have s3 := bs_size A3
      have s4 := bs_size A4
      have n1 : ¬ 9223372036854775807 < 3 + T0.length := by omega
      have n2 : ¬ 9223372036854775807 < A1.length + 1 := by omega
      have n3 : ¬ 9223372036854775807 < A2.length + T.length := by omega
      have n4 : ¬ 9223372036854775807 < A3.length + 1 := by omega
      have hr := fun w h => pread_any A4 w (by omega) h
      rw [hrd] at hr
      change ∀ w, Tabs w → Calls Tryd.prog 12 #[.string (bs A4)] w (fun e w' => e = .returned (.tuple #[.agg #[.string ⟨#[]⟩, .string ⟨#[]⟩, .string ⟨#[]⟩, .string ⟨#[]⟩, .bool false, .bool false], .bool false]) ∧ Below w.heap.size w w') at hr
      clear hrd
      go_cut [21] (fun u wx => u = .bool false ∧ Below wp.heap.size wp wx)
      case first => as_aux_lemma =>
        have hTp := tabs_ext hT.out hBp.out
        have hRp := hR.out.ext hBp.out
        refine wp_region_tree (.rd 0 (.rd 1 (.rd 2 (.rd 3 (.rd 4 (.rd 5 (.fk 6 (.rd 7 (.rd 8 (.fk 9 (.rd 10 (.rd 11 (.rd 12 (.mk 13 (.mk 14 (.rd 15 .fin)))))) 13 (.mk 9 (.rd 10 (.rd 11 (.rd 12 (.mk 14 (.rd 15 .fin))))))))) 13 (.mk 6 (.rd 7 (.rd 8 (.mk 9 (.rd 10 (.rd 11 (.rd 12 (.mk 14 (.rd 15 .fin)))))))))))))))) (fun u => u.heap[g]? = some (.cells #[.string (bs T0), .string (bs T1), .string ⟨#[97, 112, 112, 101, 110, 100]⟩, .string ⟨#[110, 111, 108, 105, 110, 101]⟩] 9)) hp.out (by kernel_rfl) (by kernel_rfl) (by kernel_rfl) (fun _ _ d _ _ h => by cases d <;> exact h) ?_
        repeat (first | refine wpT_move rfl ?_ | (refine wpT_rd rfl ?_; intro K hK; go_simp; refine hK _ _ _ ?_; clear hK K))
        refine wpT_read (.string (bs T0)) rfl rfl hp.out (fun u hu => by obtain ⟨y0, y1, y2, y3⟩ := four hu; go_simp) ?_
        repeat (first | refine wpT_move rfl ?_ | (refine wpT_rd rfl ?_; intro K hK; go_simp; refine hK _ _ _ ?_; clear hK K))
        refine wpT_fk ?_ ?_
        · refine wpT_mk rfl ?_
          intro K hK
          go_simp
          refine (hmd _ hRp.dr).mono ?_
          rintro e w2 ⟨rfl, hb2⟩
          replace hb2 := ext_trans (ext_drew wp) hb2
          refine can_same (S := (fun u => u.heap[g]? = some (.cells #[.string (bs T0), .string (bs T1), .string ⟨#[97, 112, 112, 101, 110, 100]⟩, .string ⟨#[110, 111, 108, 105, 110, 101]⟩] 9))) (keep hp.out hb2).1 (hK _ _ _ ?_)
          clear hK K
          repeat (first | refine wpT_move rfl ?_ | (refine wpT_rd rfl ?_; intro K hK; go_simp; refine hK _ _ _ ?_; clear hK K))
          refine wpT_fk ?_ ?_
          · refine wpT_mk rfl ?_
            intro K hK
            go_simp
            refine (hr _ (tabs_ext hTp hb2)).mono ?_
            rintro e w4 ⟨rfl, hb4⟩
            replace hb4 := ext_trans hb2 hb4
            refine can_same (S := (fun u => u.heap[g]? = some (.cells #[.string (bs T0), .string (bs T1), .string ⟨#[97, 112, 112, 101, 110, 100]⟩, .string ⟨#[110, 111, 108, 105, 110, 101]⟩] 9))) (keep hp.out hb4).1 (hK _ _ _ ?_)
            clear hK K
            repeat (first | refine wpT_move rfl ?_ | (refine wpT_rd rfl ?_; intro K hK; go_simp; refine hK _ _ _ ?_; clear hK K))
            refine wpT_mk rfl ?_
            intro K hK
            go_simp
            refine can_same (S := (fun u => u.heap[g]? = some (.cells #[.string (bs T0), .string (bs T1), .string ⟨#[97, 112, 112, 101, 110, 100]⟩, .string ⟨#[110, 111, 108, 105, 110, 101]⟩] 9))) (keep (keep hp.out hb4).1 (ext_alloc _ _)).1 (hK _ _ _ ?_)
            clear hK K
            refine wpT_mk rfl ?_
            intro K hK
            go_simp
            refine can_same (S := (fun u => u.heap[g]? = some (.cells #[.string (bs T0), .string (bs T1), .string ⟨#[97, 112, 112, 101, 110, 100]⟩, .string ⟨#[110, 111, 108, 105, 110, 101]⟩] 9))) (keep (keep hp.out hb4).1 (ext_alloc _ _)).1 (hK _ _ _ ?_)
            clear hK K
            repeat (first | refine wpT_move rfl ?_ | (refine wpT_rd rfl ?_; intro K hK; go_simp; refine hK _ _ _ ?_; clear hK K))
            refine wpT_fin ?_
            go_wp2_with fail
            go_meet
            case rel => exact ⟨rfl, ext_trans hb4 (ext_alloc _ _)⟩
          · refine wpT_mk rfl ?_
            intro K hK
            go_simp
            refine can_same (S := (fun u => u.heap[g]? = some (.cells #[.string (bs T0), .string (bs T1), .string ⟨#[97, 112, 112, 101, 110, 100]⟩, .string ⟨#[110, 111, 108, 105, 110, 101]⟩] 9))) (keep (keep hp.out hb2).1 (ext_alloc _ _)).1 (hK _ _ _ ?_)
            clear hK K
            refine wpT_mk rfl ?_
            intro K hK
            go_simp
            refine (hr _ (tabs_ext hTp (ext_trans hb2 (ext_alloc _ _)))).mono ?_
            rintro e w4 ⟨rfl, hb4⟩
            have hz : w4.heap[w2.heap.size]? = some (.cells #[.string ⟨#[]⟩, .string ⟨#[]⟩, .string ⟨#[]⟩, .string ⟨#[]⟩, .bool false, .bool false] 27) := (keep (heap_alloc_new w2 (.cells #[.string ⟨#[]⟩, .string ⟨#[]⟩, .string ⟨#[]⟩, .string ⟨#[]⟩, .bool false, .bool false] 27)) hb4).1
            have hne : g ≠ w2.heap.size := Nat.ne_of_lt (keep hp.out hb2).2
            have hp2 := (keep (keep (keep hp.out hb2).1 (ext_alloc w2 (.cells #[.string ⟨#[]⟩, .string ⟨#[]⟩, .string ⟨#[]⟩, .string ⟨#[]⟩, .bool false, .bool false] 27))).1 hb4).1
            have hsz2 := hb2.size
            replace hb2 := ext_trans (ext_trans hb2 (ext_alloc w2 (.cells #[.string ⟨#[]⟩, .string ⟨#[]⟩, .string ⟨#[]⟩, .string ⟨#[]⟩, .bool false, .bool false] 27))) hb4
            refine can_same (S := (fun u => u.heap[g]? = some (.cells #[.string (bs T0), .string (bs T1), .string ⟨#[97, 112, 112, 101, 110, 100]⟩, .string ⟨#[110, 111, 108, 105, 110, 101]⟩] 9))) hp2 (hK _ _ _ ?_)
            clear hK K
            repeat (first | refine wpT_move rfl ?_ | (refine wpT_rd rfl ?_; intro K hK; go_simp; refine hK _ _ _ ?_; clear hK K))
            obtain ⟨y0, y1, y2, y3, y4, y5⟩ := six hz
            have yf := blk_free hz
            refine wpT_mk rfl ?_
            intro K hK
            go_simp
            refine can_same (S := (fun u => u.heap[g]? = some (.cells #[.string (bs T0), .string (bs T1), .string ⟨#[97, 112, 112, 101, 110, 100]⟩, .string ⟨#[110, 111, 108, 105, 110, 101]⟩] 9))) ((set_six hne _ _ _ _ _ _).trans hp2) (hK _ _ _ ?_)
            clear hK K
            repeat (first | refine wpT_move rfl ?_ | (refine wpT_rd rfl ?_; intro K hK; go_simp; refine hK _ _ _ ?_; clear hK K))
            refine wpT_fin ?_
            go_wp2_with fail
            go_meet
            case rel => exact ⟨rfl, below_six hb2 hsz2 _ _ _ _ _ _⟩
        · refine wpT_mk rfl ?_
          intro K hK
          go_simp
          refine can_same (S := (fun u => u.heap[g]? = some (.cells #[.string (bs T0), .string (bs T1), .string ⟨#[97, 112, 112, 101, 110, 100]⟩, .string ⟨#[110, 111, 108, 105, 110, 101]⟩] 9))) (keep hp.out (ext_alloc _ _)).1 (hK _ _ _ ?_)
          clear hK K
          refine wpT_mk rfl ?_
          intro K hK
          go_simp
          refine (hmd _ (hRp.ext (ext_trans (ext_drew wp) (ext_alloc wp.drew _)))).mono ?_
          rintro e w2 ⟨rfl, hb2⟩
          have hz : w2.heap[wp.heap.size]? = some (.cells #[.string ⟨#[]⟩, .string ⟨#[]⟩, .string ⟨#[]⟩, .string ⟨#[]⟩, .bool false, .bool false] 27) := (keep (heap_alloc_new wp.drew (.cells #[.string ⟨#[]⟩, .string ⟨#[]⟩, .string ⟨#[]⟩, .string ⟨#[]⟩, .bool false, .bool false] 27)) hb2).1
          have hne : g ≠ wp.heap.size := Nat.ne_of_lt (Array.getElem?_eq_some_iff.1 hp.out).1
          have hp2 := (keep (keep (w := wp.drew) hp.out (ext_alloc wp.drew (.cells #[.string ⟨#[]⟩, .string ⟨#[]⟩, .string ⟨#[]⟩, .string ⟨#[]⟩, .bool false, .bool false] 27))).1 hb2).1
          replace hb2 := ext_trans (ext_trans (ext_drew wp) (ext_alloc wp.drew (.cells #[.string ⟨#[]⟩, .string ⟨#[]⟩, .string ⟨#[]⟩, .string ⟨#[]⟩, .bool false, .bool false] 27))) hb2
          refine can_same (S := (fun u => u.heap[g]? = some (.cells #[.string (bs T0), .string (bs T1), .string ⟨#[97, 112, 112, 101, 110, 100]⟩, .string ⟨#[110, 111, 108, 105, 110, 101]⟩] 9))) hp2 (hK _ _ _ ?_)
          clear hK K
          repeat (first | refine wpT_move rfl ?_ | (refine wpT_rd rfl ?_; intro K hK; go_simp; refine hK _ _ _ ?_; clear hK K))
          refine wpT_mk rfl ?_
          intro K hK
          go_simp
          refine (hr _ (tabs_ext hTp hb2)).mono ?_
          rintro e w4 ⟨rfl, hb4⟩
          replace hz := (keep hz hb4).1
          replace hp2 := (keep hp2 hb4).1
          replace hb2 := ext_trans hb2 hb4
          refine can_same (S := (fun u => u.heap[g]? = some (.cells #[.string (bs T0), .string (bs T1), .string ⟨#[97, 112, 112, 101, 110, 100]⟩, .string ⟨#[110, 111, 108, 105, 110, 101]⟩] 9))) hp2 (hK _ _ _ ?_)
          clear hK K
          repeat (first | refine wpT_move rfl ?_ | (refine wpT_rd rfl ?_; intro K hK; go_simp; refine hK _ _ _ ?_; clear hK K))
          obtain ⟨y0, y1, y2, y3, y4, y5⟩ := six hz
          have yf := blk_free hz
          refine wpT_mk rfl ?_
          intro K hK
          go_simp
          refine can_same (S := (fun u => u.heap[g]? = some (.cells #[.string (bs T0), .string (bs T1), .string ⟨#[97, 112, 112, 101, 110, 100]⟩, .string ⟨#[110, 111, 108, 105, 110, 101]⟩] 9))) ((set_six hne _ _ _ _ _ _).trans hp2) (hK _ _ _ ?_)
          clear hK K
          repeat (first | refine wpT_move rfl ?_ | (refine wpT_rd rfl ?_; intro K hK; go_simp; refine hK _ _ _ ?_; clear hK K))
          refine wpT_fin ?_
          go_wp2_with fail
          go_meet
          case rel => exact ⟨rfl, below_six hb2 (Nat.le_refl _) _ _ _ _ _ _⟩
      case rest =>
      obtain ⟨rfl, hbx⟩ := hcut
      replace hq1 := Lib.hid (keep hq1.out hbx).1
      replace hq2 := Lib.hid (keep hq2.out hbx).1
      replace hq3 := Lib.hid (keep hq3.out hbx).1
      replace hBp := Lib.hid (ext_trans hBp.out hbx)
      replace hp := Lib.hid (keep hp.out hbx).1
      clear hbx
      clear hr e1 l1' s1 n1 e2 l2' s2 n2 e3 l3' s3 n3 e4 l4' s4 n4
      clear wp
      obtain ⟨wp, rfl⟩ : ∃ wp : World, wp = wc := ⟨_, rfl⟩
      obtain ⟨y10, y11, y12, y13, y14, y15⟩ := six hq1.out
      obtain ⟨y20, y21, y22, y23, y24, y25⟩ := six hq2.out
      obtain ⟨y30, y31, y32, y33, y34, y35⟩ := six hq3.out
      go_wp2_with fail
      refine (known_fn _ (tabs_ext hT.out hBp.out)).mono ?_
      rintro e w9 ⟨rfl, hb9⟩
      go_wp2_with fail
      go_ret
      exact ⟨rfl, ext_trans hBp.out hb9⟩
end Go.Proofs.YtfppfaliepkhgaaDoor
