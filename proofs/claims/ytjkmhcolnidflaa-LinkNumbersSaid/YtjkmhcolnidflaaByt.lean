/- Bytes of a text, parts of a text, tests of bytes: what the machine's own operations give. No function of the program is spoken of here. -/
import Derived.Test.YtjkmhcolnidflaaClMath
namespace Go.Proofs.Ytjkmhcolnidflaa
open Go.RowKit

theorem run_byte {S : List UInt8} {i : Nat} (h : i < S.length) (w : World) :
    (Instr.index 9 (.string (bs S)) (.int .i64 (i : Int))).run Try.prog w = .ok (.int .u8 (S[i].toNat : Int)) w := by
  have hs := bs_size S
  rw [run_index_string w 9 (bs S) .i64 (i : Int) Try.underlying9, dif_pos ⟨by omega, by omega⟩]
  rfl

theorem byte_eq {b : UInt8} {n : Nat} (hn : n < 256) (h : b = UInt8.ofNat n) : ((b.toNat : Int) == (n : Int)) = true := by
  subst h; simp; omega

theorem byte_ne {b : UInt8} {n : Nat} (hn : n < 256) (h : b ≠ UInt8.ofNat n) : ((b.toNat : Int) == (n : Int)) = false := by
  rw [beq_eq_false_iff_ne]; intro he; apply h
  have : b.toNat = n := by omega
  subst this; simp

/-- the two tests of a blank or a tab -/
theorem gap_tests (b : UInt8) : (((b.toNat : Int) == (32 : Int)) = true ∧ Cl.isGap b = true) ∨ (((b.toNat : Int) == (32 : Int)) = false ∧ ((b.toNat : Int) == (9 : Int)) = true ∧ Cl.isGap b = true) ∨ (((b.toNat : Int) == (32 : Int)) = false ∧ ((b.toNat : Int) == (9 : Int)) = false ∧ Cl.isGap b = false) := by
  by_cases h : b = 32
  · exact .inl ⟨byte_eq (n := 32) (by omega) h, by subst h; rfl⟩
  · have h1 := byte_ne (n := 32) (by omega) h
    by_cases h' : b = 9
    · exact .inr (.inl ⟨h1, byte_eq (n := 9) (by omega) h', by subst h'; rfl⟩)
    · exact .inr (.inr ⟨h1, byte_ne (n := 9) (by omega) h', by simp [Cl.isGap, h, h']⟩)

/-- a text from a place on -/
theorem run_from {S : List UInt8} {i : Nat} (h : i ≤ S.length) (w : World) :
    (Instr.slice 9 (.string (bs S)) (some (.int .i64 (i : Int))) none none).run Try.prog w = .ok (.string (bs (S.drop i))) w := by
  have hs := bs_size S
  have he : (bs S).extract i (bs S).size = bs (S.drop i) := by
    apply ByteArray.ext
    simp only [bs, ByteArray.data_extract, List.extract_toArray, List.extract_eq_take_drop]
    rw [List.take_of_length_le (by simp [ByteArray.size])]
  have h1 : (0 : Int) ≤ (i : Int) ∧ (i : Int) ≤ ((bs S).size : Int) := by omega
  simp [Instr.slice, run_underlying Try.underlying9, Instr.sliceBounds, run_sliceBound, h1, he, go_sem]

/-- a text up to a place -/
theorem run_upto {S : List UInt8} {i : Nat} (h : i ≤ S.length) (w : World) :
    (Instr.slice 9 (.string (bs S)) none (some (.int .i64 (i : Int))) none).run Try.prog w = .ok (.string (bs (S.take i))) w := by
  have hs := bs_size S
  have he : (bs S).extract 0 i = bs (S.take i) := by
    apply ByteArray.ext
    simp only [bs, ByteArray.data_extract, List.extract_toArray, List.extract_eq_take_drop]
    simp
  have h1 : (0 : Int) ≤ (i : Int) ∧ (i : Int) ≤ ((bs S).size : Int) := by omega
  simp [Instr.slice, run_underlying Try.underlying9, Instr.sliceBounds, run_sliceBound, h1, he, go_sem]

theorem byte_same {a b : UInt8} (h : a = b) : ((a.toNat : Int) == (b.toNat : Int)) = true := by subst h; simp

theorem byte_diff {a b : UInt8} (h : a ≠ b) : ((a.toNat : Int) == (b.toNat : Int)) = false := by
  rw [beq_eq_false_iff_ne]; intro he; exact h (UInt8.toNat_inj.1 (by omega))

theorem ret_i64 {a b : Int} (h : a = b) : Ending.returned (.int .i64 a) = .returned (.int .i64 b) := by rw [h]

/-- a text from a place to another -/
theorem run_mid {S : List UInt8} {i j : Nat} (h : i ≤ j) (hj : j ≤ S.length) (w : World) :
    (Instr.slice 9 (.string (bs S)) (some (.int .i64 (i : Int))) (some (.int .i64 (j : Int))) none).run Try.prog w = .ok (.string (bs (mid S i j))) w := by
  have hs := bs_size S
  have he : (bs S).extract i j = bs (mid S i j) := by
    apply ByteArray.ext
    simp only [bs, ByteArray.data_extract, List.extract_toArray, List.extract_eq_take_drop, mid]
  have hr := run_slice_string (P := Try.prog) w 9 (bs S) .i64 .i64 (i : Int) (j : Int) Try.underlying9 (by omega) (by omega) (by omega)
  rw [hr, show ((i : Int)).toNat = i from by omega, show ((j : Int)).toNat = j from by omega, he]
/-- a byte of a text, as a text -/
theorem run_one_at {S : List UInt8} {i : Nat} (h : i < S.length) {v u : Int} (hv : v = (i : Int)) (hu : u = (i : Int) + 1) (w : World) :
    (Instr.slice 9 (.string (bs S)) (some (.int .i64 v)) (some (.int .i64 u)) none).run Try.prog w = .ok (.string (bs [S[i]])) w := by
  subst hv hu
  have hs := bs_size S
  have he : (bs S).extract i (i + 1) = bs [S[i]] := by
    apply ByteArray.ext
    simp only [bs, ByteArray.data_extract, List.extract_toArray, List.extract_eq_take_drop]
    rw [List.drop_eq_getElem_cons h, show i + 1 - i = 1 from by omega]; rfl
  have hr := run_slice_string (P := Try.prog) w 9 (bs S) .i64 .i64 (i : Int) ((i : Int) + 1) Try.underlying9 (by omega) (by omega) (by omega)
  rw [hr, show ((i : Int)).toNat = i from by omega, show ((i : Int) + 1).toNat = i + 1 from by omega, he]
theorem run_one {S : List UInt8} {i : Nat} (h : i < S.length) (w : World) :
    (Instr.slice 9 (.string (bs S)) (some (.int .i64 (i : Int))) (some (.int .i64 ((i : Int) + 1))) none).run Try.prog w = .ok (.string (bs [S[i]])) w := run_one_at h rfl rfl w
theorem run_byte_at {S : List UInt8} {i : Nat} (h : i < S.length) {v : Int} (hv : v = (i : Int)) (w : World) :
    (Instr.index 9 (.string (bs S)) (.int .i64 v)).run Try.prog w = .ok (.int .u8 (S[i].toNat : Int)) w := by
  subst hv; exact run_byte h w

theorem text_nil : (bs []).toList.isEmpty = true := by rw [bs_toList]; rfl
theorem text_cons (c : UInt8) (r : List UInt8) : (bs (c :: r)).toList.isEmpty = false := by rw [bs_toList]; rfl
end Go.Proofs.Ytjkmhcolnidflaa
