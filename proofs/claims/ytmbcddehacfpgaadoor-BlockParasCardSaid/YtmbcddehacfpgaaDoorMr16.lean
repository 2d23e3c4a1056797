/- Package cols and the document's own answer: a text without its first columns. -/
import Derived.Test.YtmbcddehacfpgaaDoorMr09
import Derived.Test.YtmbcddehacfpgaaDoorMr15
import Derived.Deep.CutBlock
import Derived.Deep.DeepCutAuto
namespace Go.Proofs.YtmbcddehacfpgaaDoor
open Go.RowKit

theorem bcells_byteCells (l : List UInt8) : Lib.byteCells l = bcells l := rfl
theorem bcells_append (a b : List UInt8) : bcells (a ++ b) = bcells a ++ bcells b := by simp [bcells]
theorem ext_allocs (w : World) (o : Obj) : Below w.heap.size w (w.alloc o) := (Below.refl _ w).alloc (Nat.le_refl _) _
theorem fresh_bld (w : World) : IsB w.heap.size w.heap.size (bcells []) (w.alloc (.cells #[.pointer none, .slice none 0 0] 74)) :=
  Lib.IsBuilderF.of (Lib.fresh_isBuilder 74 5 w)
theorem bld_string (B b : Nat) (l : List UInt8) (w : World) (h : IsB B b (bcells l) w) (hBw : B ≤ w.heap.size) :
    Calls Tryd.prog 27 #[.pointer (some ⟨b, 0, none⟩)] w fun e w' => e = .returned (.string (bs l)) ∧ Below B w w' :=
  (Tryd.Builder_String_any_k B b l w h hBw).mono fun _ _ ⟨he, _, hb, _⟩ => ⟨he, hb⟩

theorem bcells_blank (j : Nat) : bcells (List.replicate j 32) ++ [.int .u8 32] = bcells (List.replicate (j + 1) 32) := by
  rw [List.replicate_succ', bcells_append]; rfl

set_option maxHeartbeats 4000000 in
set_option maxRecDepth 100000 in
theorem strip_any (l : List UInt8) (n : Int) (w : World) (hl : l.length + 3 ≤ 140737488355328) :
    Calls Tryd.prog 35 #[.string (bs l), .int .i64 n] w fun e w' => e = .returned (.string (bs (Cl.strip n l))) ∧ Below w.heap.size w w' := by
  obtain ⟨N, hN, hmx, hls⟩ : ∃ N : Nat, n.toNat = N ∧ max n 0 = (N : Int) ∧ Cl.lead n l 0 = Cl.lead (N : Int) l 0 := by
    refine ⟨n.toNat, rfl, by omega, ?_⟩
    by_cases h : n ≤ 0
    · rw [Cl.lead_neg l h, Cl.lead_neg l (by omega)]
    · rw [Int.toNat_of_nonneg (by omega)]
  have hle := Cl.lead_le (N : Int) l 0
  have hpa := Cl.lead_past (N : Int) l 0 (by omega)
  have hfs := Lib.hid (fun j => @strip_parts n l j)
  rw [hls, hN] at hfs
  obtain ⟨C, K, hCK⟩ : ∃ C K, Cl.lead (N : Int) l 0 = (C, K) := ⟨_, _, rfl⟩
  have hlead := fun w => lead_any l (N : Int) w (by omega)
  rw [hCK] at hle hpa hfs hlead
  simp only at hle hpa hfs hlead
  have hsl := run_from (S := l) (i := K) (by omega)
  clear hls hCK
  go_enter Tryd.func35, Tryd.ntmps35
  go_wp2_with (go_at_call 51; refine (hlead _).mono ?_; rintro e w' ⟨rfl, rfl⟩)
  go_loopw [5] (fun v wr => ∃ c j : Nat, c + j = C ∧ j ≤ C - N ∧ v = .int .i64 c ∧ IsB w.heap.size w.heap.size (bcells (List.replicate j 32)) wr ∧ Below w.heap.size w wr) (fun v _ => (intOf v).toNat)
  case atStart => exact ⟨C, 0, rfl, by omega, rfl, fresh_bld w, ext_allocs _ _⟩
  case round =>
    obtain ⟨c, j, hcj, hjN, rfl, hI, hb⟩ := hrel
    have hz := hb.size
    have hrl : (bcells (List.replicate j 32)).length = j := by simp [bcells]
    by_cases hgo : N < c
    · have hn := fun wz (h : IsB w.heap.size w.heap.size (bcells (List.replicate j 32) ++ [.int .u8 32]) wz) => (by rw [← bcells_blank]; exact h : IsB w.heap.size w.heap.size (bcells (List.replicate (j + 1) 32)) wz)
      replace hn := Lib.hid hn
      go_wp2_with (go_at_call 52; refine (writeByte_any w.heap.size w.heap.size _ 32 _ hI (by omega) hz).mono ?_; rintro e w2 ⟨rfl, h1, b1, k1⟩)
      go_roundw
      case rel => exact ⟨c - 1, j + 1, by omega, by omega, by go_num, hn.out _ h1, hb.trans b1⟩
      case measure => simp [intOf]; omega
    · have hj : j = C - N := by omega
      replace hfs := Lib.hid (hfs.out j hj)
      have hfin := fun wz (h : IsB w.heap.size w.heap.size (bcells (List.replicate j 32) ++ bcells (l.drop K)) wz) => (by rw [← hfs.out, bcells_append]; exact h : IsB w.heap.size w.heap.size (bcells (Cl.strip n l)) wz)
      replace hfin := Lib.hid hfin
      have hdl : (l.drop K).length = l.length - K := List.length_drop ..
      go_wp2_with (first | (go_at_call 53; refine (writeString_any w.heap.size w.heap.size _ (l.drop K) _ hI (by omega) hz).mono ?_; rintro e w2 ⟨⟨v, rfl⟩, h1, b1, k1⟩; replace h1 := Lib.hid (hfin.out _ h1); have hz2 := Nat.le_trans hz b1.size) | (go_at_call 27; refine (bld_string w.heap.size w.heap.size _ _ h1.out (by omega)).mono ?_; rintro e w3 ⟨rfl, b2⟩))
      go_ret
      exact ⟨rfl, (hb.trans b1).trans b2⟩

end Go.Proofs.YtmbcddehacfpgaaDoor
