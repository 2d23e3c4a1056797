/- Package cols and the document's own answer: a text without its first columns. -/
import Derived.Test.YthjhbckacpnhnaaClFns
import Derived.Test.YthjhbckacpnhnaaBldS
import Derived.Deep.CutBlock
import Derived.Deep.DeepCutAuto
namespace Go.Proofs.Ythjhbckacpnhnaa
open Go.RowKit

theorem bcells_byteCells (l : List UInt8) : Lib.byteCells l = bcells l := rfl
theorem bcells_append (a b : List UInt8) : bcells (a ++ b) = bcells a ++ bcells b := by simp [bcells]
theorem ext_allocs (w : World) (o : Obj) : Below w.heap.size w (w.alloc o) := (Below.refl _ w).alloc (Nat.le_refl _) _
theorem fresh_bld (w : World) : IsB w.heap.size w.heap.size (bcells []) (w.alloc (.cells #[.pointer none, .slice none 0 0] 38)) :=
  Lib.IsBuilderF.of (Lib.fresh_isBuilder 38 5 w)
theorem bld_string (B b : Nat) (l : List UInt8) (w : World) (h : IsB B b (bcells l) w) (hBw : B ≤ w.heap.size) :
    Calls Try.prog 21 #[.pointer (some ⟨b, 0, none⟩)] w fun e w' => e = .returned (.string (bs l)) ∧ Below B w w' :=
  (Try.Builder_String_any_k B b l w h hBw).mono fun _ _ ⟨he, _, hb, _⟩ => ⟨he, hb⟩

/-- a text from a place on -/
theorem run_from {S : List UInt8} {i : Nat} (h : i ≤ S.length) (w : World) :
    (Instr.slice 9 (.string (bs S)) (some (.int .i64 (i : Int))) none none).run Try.prog w = .ok (.string (bs (S.drop i))) w := by
  have hs := bs_size S
  have he : (bs S).extract i (bs S).size = bs (S.drop i) := by
    apply ByteArray.ext
    simp only [bs, ByteArray.data_extract, List.extract_toArray, List.extract_eq_take_drop]
    rw [List.take_of_length_le (by simp [ByteArray.size])]
  have h1 : (0 : Int) ≤ (i : Int) ∧ (i : Int) ≤ ((bs S).size : Int) := by omega
  simp [Instr.slice, run_underlying Try.underlying9, Instr.sliceBounds, run_sliceBound, h1, he, go_sem]

theorem strip_parts {n : Int} {l : List UInt8} {j : Nat} (h : j = (Cl.lead n l 0).1 - n.toNat) : List.replicate j 32 ++ l.drop (Cl.lead n l 0).2 = Cl.strip n l := by
  subst h; rfl
theorem bcells_blank (j : Nat) : bcells (List.replicate j 32) ++ [.int .u8 32] = bcells (List.replicate (j + 1) 32) := by
  rw [List.replicate_succ', bcells_append]; rfl

set_option maxHeartbeats 4000000 in
set_option maxRecDepth 100000 in
theorem strip_any (l : List UInt8) (n : Int) (w : World) (hl : l.length + 3 ≤ 140737488355328) :
    Calls Try.prog 11 #[.string (bs l), .int .i64 n] w fun e w' => e = .returned (.string (bs (Cl.strip n l))) ∧ Below w.heap.size w w' := by
  obtain ⟨N, hN, hmx, hls⟩ : ∃ N : Nat, n.toNat = N ∧ max n 0 = (N : Int) ∧ Cl.lead n l 0 = Cl.lead (N : Int) l 0 := by
    refine ⟨n.toNat, rfl, by omega, ?_⟩
    by_cases h : n ≤ 0
    · rw [Cl.lead_neg l h, Cl.lead_neg l (by omega)]
    · rw [Int.toNat_of_nonneg (by omega)]
  have hle := Cl.lead_le (N : Int) l 0
  have hpa := Cl.lead_past (N : Int) l 0 (by omega)
  have hfs := Lib.hid (fun j => @strip_parts n l j)
  rw [hls, hN] at hfs
  obtain ⟨C, K, hCK⟩ : ∃ C K, Cl.lead (N : Int) l 0 = (C, K) := ⟨_, _, rfl⟩
  have hlead := fun w => lead_any l (N : Int) w (by omega)
  rw [hCK] at hle hpa hfs hlead
  simp only at hle hpa hfs hlead
  have hsl := run_from (S := l) (i := K) (by omega)
  clear hls hCK
  go_enter Try.func11, Try.ntmps11
  go_wp2_with (go_at_call 18; refine (hlead _).mono ?_; rintro e w' ⟨rfl, rfl⟩)
  go_loopw [5] (fun v wr => ∃ c j : Nat, c + j = C ∧ j ≤ C - N ∧ v = .int .i64 c ∧ IsB w.heap.size w.heap.size (bcells (List.replicate j 32)) wr ∧ Below w.heap.size w wr) (fun v _ => (intOf v).toNat)
  case atStart => exact ⟨C, 0, rfl, by omega, rfl, fresh_bld w, ext_allocs _ _⟩
  case round =>
    obtain ⟨c, j, hcj, hjN, rfl, hI, hb⟩ := hrel
    have hz := hb.size
    have hrl : (bcells (List.replicate j 32)).length = j := by simp [bcells]
    by_cases hgo : N < c
    · have hn := fun wz (h : IsB w.heap.size w.heap.size (bcells (List.replicate j 32) ++ [.int .u8 32]) wz) => (by rw [← bcells_blank]; exact h : IsB w.heap.size w.heap.size (bcells (List.replicate (j + 1) 32)) wz)
      replace hn := Lib.hid hn
      go_wp2_with (go_at_call 19; refine (writeByte_any w.heap.size w.heap.size _ 32 _ hI (by omega) hz).mono ?_; rintro e w2 ⟨rfl, h1, b1, k1⟩)
      go_roundw
      case rel => exact ⟨c - 1, j + 1, by omega, by omega, by go_num, hn.out _ h1, hb.trans b1⟩
      case measure => simp [intOf]; omega
    · have hj : j = C - N := by omega
      replace hfs := Lib.hid (hfs.out j hj)
      have hfin := fun wz (h : IsB w.heap.size w.heap.size (bcells (List.replicate j 32) ++ bcells (l.drop K)) wz) => (by rw [← hfs.out, bcells_append]; exact h : IsB w.heap.size w.heap.size (bcells (Cl.strip n l)) wz)
      replace hfin := Lib.hid hfin
      have hdl : (l.drop K).length = l.length - K := List.length_drop ..
      go_wp2_with (first | (go_at_call 20; refine (writeString_any w.heap.size w.heap.size _ (l.drop K) _ hI (by omega) hz).mono ?_; rintro e w2 ⟨⟨v, rfl⟩, h1, b1, k1⟩; replace h1 := Lib.hid (hfin.out _ h1); have hz2 := Nat.le_trans hz b1.size) | (go_at_call 21; refine (bld_string w.heap.size w.heap.size _ _ h1.out (by omega)).mono ?_; rintro e w3 ⟨rfl, b2⟩))
      go_ret
      exact ⟨rfl, (hb.trans b1).trans b2⟩

theorem text_blank (j : Nat) : bs (List.replicate j 32) ++ ⟨#[32]⟩ = bs (List.replicate (j + 1) 32) := by
  rw [show (⟨#[32]⟩ : ByteArray) = bs [32] from rfl, bs_append, List.replicate_succ']

set_option maxHeartbeats 4000000 in
set_option maxRecDepth 100000 in
theorem rstrip_any (l : List UInt8) (n : Int) (w : World) (hl : l.length + 3 ≤ 140737488355328) :
    Calls Try.prog 15 #[.string (bs l), .int .i64 n] w fun e w' => e = .returned (.string (bs (Cl.strip n l))) ∧ w = w' := by
  have hsz := bs_size l
  have hle := Cl.lead_le n l 0
  have hng := @Cl.lead_neg n l
  have hpa := Cl.lead_past n l 0
  have hfs := Lib.hid (fun j => @strip_parts n l j)
  obtain ⟨C, K, hCK⟩ : ∃ C K, Cl.lead n l 0 = (C, K) := ⟨_, _, rfl⟩
  rw [hCK] at hle hpa hfs hng
  simp only [Prod.mk.injEq] at hle hpa hfs hng
  have hCKh := Lib.hid hCK
  have hsl := run_from (S := l) (i := K) (by omega)
  clear hCK
  go_enter Try.func15, Try.ntmps15
  go_upto_block 0 with fail
  go_cut [5, 6] (fun v u wx => wx = w ∧ v = .int .i64 C ∧ u = .int .i64 K)
  case first =>
    clear hng hpa hsl hle
    go_wp2_with fail
    go_loop [5, 6] (fun v u => ∃ c k : Nat, k ≤ l.length ∧ c ≤ 4 * k ∧ v = .int .i64 c ∧ u = .int .i64 k ∧ Hid (Cl.fin n l k c = (C, K))) (fun v u => l.length - (intOf u).toNat)
    case atStart => exact ⟨0, 0, by omega, by omega, rfl, rfl, Lib.hid ((Cl.fin_zero n l).trans hCKh.out)⟩
    case round =>
      obtain ⟨c, k, hk, hck, rfl, rfl, hf⟩ := hrel
      rcases Nat.lt_or_eq_of_le hk with hlt | rfl
      · have hx := run_byte hlt w
        have hst := Cl.step_le c l[k]
        have hg := gap_any l[k]
        by_cases h3 : Cl.isGap l[k] = true
        · rw [h3] at hg
          by_cases hc : (c : Int) < n
          · have hf2 := Lib.hid ((Cl.fin_step hlt hc h3).trans hf.out)
            go_wp2_with (first | (go_at_call 23; refine (hg _).mono ?_; rintro e w' ⟨rfl, rfl⟩) | (go_at_call 24; refine (rstep_any c l[k] _ (by omega)).mono ?_; rintro e w' ⟨rfl, rfl⟩))
            go_round
            case rel => exact ⟨Cl.step c l[k], k + 1, by omega, by omega, rfl, by go_num, hf2⟩
            case measure => simp [intOf]; omega
          · have hfin := (Cl.fin_full l hc).symm.trans hf.out
            simp only [Prod.mk.injEq] at hfin
            obtain ⟨rfl, rfl⟩ := hfin
            go_wp2_with (go_at_call 23; refine (hg _).mono ?_; rintro e w' ⟨rfl, rfl⟩)
            go_meet
            case rel => exact ⟨rfl, rfl, rfl⟩
        · have hfin := (Cl.fin_word hlt (by simpa using h3)).symm.trans hf.out
          simp only [Prod.mk.injEq] at hfin
          obtain ⟨rfl, rfl⟩ := hfin
          rw [show Cl.isGap l[k] = false from by simpa using h3] at hg
          go_wp2_with (go_at_call 23; refine (hg _).mono ?_; rintro e w' ⟨rfl, rfl⟩)
          go_meet
          case rel => exact ⟨rfl, rfl, rfl⟩
      · have hfin := (Cl.fin_end (by omega)).symm.trans hf.out
        simp only [Prod.mk.injEq] at hfin
        obtain ⟨rfl, rfl⟩ := hfin
        go_wp2
        go_meet
        case rel => exact ⟨rfl, rfl, rfl⟩
  case rest =>
    obtain ⟨rfl, rfl, rfl⟩ := hcut
    go_wp2_with fail
    go_loop [5, 7] (fun v u => ∃ c j : Nat, c + j = C ∧ j ≤ C - n.toNat ∧ v = .int .i64 c ∧ u = .string (bs (List.replicate j 32))) (fun v _ => (intOf v).toNat)
    case atStart => exact ⟨C, 0, rfl, by omega, rfl, rfl⟩
    case round =>
      obtain ⟨c, j, hcj, hjN, rfl, rfl⟩ := hrel
      have htb := text_blank j
      have hz1 : (bs (List.replicate j 32)).size = j := by rw [bs_size, List.length_replicate]
      have hz2 : (bs (l.drop K)).size = l.length - K := by rw [bs_size, List.length_drop]
      by_cases h0 : 0 ≤ n
      · by_cases hgo : n < c
        · have hz3 : (bs (List.replicate j 32)).size + ByteArray.size ⟨#[32]⟩ ≤ 9223372036854775807 := by rw [hz1]; show j + 1 ≤ _; omega
          go_wp2
          go_round
          case rel => exact ⟨c - 1, j + 1, by omega, by omega, by go_num, rfl⟩
          case measure => simp [intOf]; omega
        · replace hfs := Lib.hid (hfs.out j (by omega))
          go_wp2
          go_returns
          exact ⟨by rw [← hfs.out, ← bs_append]; rfl, rfl⟩
      · have h00 := hng (by omega)
        have hgo : n < c := by omega
        replace hfs := Lib.hid (hfs.out j (by omega))
        clear h00 hng
        go_wp2
        go_returns
        exact ⟨by rw [← hfs.out, ← bs_append]; rfl, rfl⟩
end Go.Proofs.Ythjhbckacpnhnaa
