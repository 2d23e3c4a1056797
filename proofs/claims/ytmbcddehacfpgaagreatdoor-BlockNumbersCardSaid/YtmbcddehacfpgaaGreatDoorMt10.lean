/- The document's own answer: a text without its first columns. -/
import Derived.Test.YtmbcddehacfpgaaGreatDoorMt02
import Derived.Deep.CutBlock
import Derived.Deep.DeepCutAuto
namespace Go.Proofs.YtmbcddehacfpgaaGreatDoor
open Go.RowKit

theorem strip_parts {n : Int} {l : List UInt8} {j : Nat} (h : j = (Cl.lead n l 0).1 - n.toNat) : List.replicate j 32 ++ l.drop (Cl.lead n l 0).2 = Cl.strip n l := by
  subst h; rfl
theorem text_blank (j : Nat) : bs (List.replicate j 32) ++ ⟨#[32]⟩ = bs (List.replicate (j + 1) 32) := by
  rw [show (⟨#[32]⟩ : ByteArray) = bs [32] from rfl, bs_append, List.replicate_succ']

set_option maxHeartbeats 4000000 in
set_option maxRecDepth 100000 in
theorem rstrip_any (l : List UInt8) (n : Int) (w : World) (hl : l.length + 3 ≤ 140737488355328) :
    Calls Tryz.prog 44 #[.string (bs l), .int .i64 n] w fun e w' => e = .returned (.string (bs (Cl.strip n l))) ∧ w = w' := by
  have hsz := bs_size l
  have hle := Cl.lead_le n l 0
  have hng := @Cl.lead_neg n l
  have hpa := Cl.lead_past n l 0
  have hfs := Lib.hid (fun j => @strip_parts n l j)
  obtain ⟨C, K, hCK⟩ : ∃ C K, Cl.lead n l 0 = (C, K) := ⟨_, _, rfl⟩
  rw [hCK] at hle hpa hfs hng
  simp only [Prod.mk.injEq] at hle hpa hfs hng
  have hCKh := Lib.hid hCK
  have hsl := run_from (S := l) (i := K) (by omega)
  clear hCK
  go_enter Tryz.func44, Tryz.ntmps44
  go_upto_block 0 with fail
  go_cut [5, 6] (fun v u wx => wx = w ∧ v = .int .i64 C ∧ u = .int .i64 K)
  case first =>
    clear hng hpa hsl hle
    go_wp2_with fail
    go_loop [5, 6] (fun v u => ∃ c k : Nat, k ≤ l.length ∧ c ≤ 4 * k ∧ v = .int .i64 c ∧ u = .int .i64 k ∧ Hid (Cl.fin n l k c = (C, K))) (fun v u => l.length - (intOf u).toNat)
    case atStart => exact ⟨0, 0, by omega, by omega, rfl, rfl, Lib.hid ((Cl.fin_zero n l).trans hCKh.out)⟩
    case round =>
      obtain ⟨c, k, hk, hck, rfl, rfl, hf⟩ := hrel
      rcases Nat.lt_or_eq_of_le hk with hlt | rfl
      · have hx := run_byte hlt w
        have hst := Cl.step_le c l[k]
        have hg := gap_any l[k]
        by_cases h3 : Cl.isGap l[k] = true
        · rw [h3] at hg
          by_cases hc : (c : Int) < n
          · have hf2 := Lib.hid ((Cl.fin_step hlt hc h3).trans hf.out)
            go_wp2_with (first | (go_at_call 70; refine (hg _).mono ?_; rintro e w' ⟨rfl, rfl⟩) | (go_at_call 71; refine (rstep_any c l[k] _ (by omega)).mono ?_; rintro e w' ⟨rfl, rfl⟩))
            go_round
            case rel => exact ⟨Cl.step c l[k], k + 1, by omega, by omega, rfl, by go_num, hf2⟩
            case measure => simp [intOf]; omega
          · have hfin := (Cl.fin_full l hc).symm.trans hf.out
            simp only [Prod.mk.injEq] at hfin
            obtain ⟨rfl, rfl⟩ := hfin
            go_wp2_with (go_at_call 70; refine (hg _).mono ?_; rintro e w' ⟨rfl, rfl⟩)
            go_meet
            case rel => exact ⟨rfl, rfl, rfl⟩
        · have hfin := (Cl.fin_word hlt (by simpa using h3)).symm.trans hf.out
          simp only [Prod.mk.injEq] at hfin
          obtain ⟨rfl, rfl⟩ := hfin
          rw [show Cl.isGap l[k] = false from by simpa using h3] at hg
          go_wp2_with (go_at_call 70; refine (hg _).mono ?_; rintro e w' ⟨rfl, rfl⟩)
          go_meet
          case rel => exact ⟨rfl, rfl, rfl⟩
      · have hfin := (Cl.fin_end (by omega)).symm.trans hf.out
        simp only [Prod.mk.injEq] at hfin
        obtain ⟨rfl, rfl⟩ := hfin
        go_wp2
        go_meet
        case rel => exact ⟨rfl, rfl, rfl⟩
  case rest =>
    obtain ⟨rfl, rfl, rfl⟩ := hcut
    go_wp2_with fail
    go_loop [5, 7] (fun v u => ∃ c j : Nat, c + j = C ∧ j ≤ C - n.toNat ∧ v = .int .i64 c ∧ u = .string (bs (List.replicate j 32))) (fun v _ => (intOf v).toNat)
    case atStart => exact ⟨C, 0, rfl, by omega, rfl, rfl⟩
    case round =>
      obtain ⟨c, j, hcj, hjN, rfl, rfl⟩ := hrel
      have htb := text_blank j
      have hz1 : (bs (List.replicate j 32)).size = j := by rw [bs_size, List.length_replicate]
      have hz2 : (bs (l.drop K)).size = l.length - K := by rw [bs_size, List.length_drop]
      by_cases h0 : 0 ≤ n
      · by_cases hgo : n < c
        · have hz3 : (bs (List.replicate j 32)).size + ByteArray.size ⟨#[32]⟩ ≤ 9223372036854775807 := by rw [hz1]; show j + 1 ≤ _; omega
          go_wp2
          go_round
          case rel => exact ⟨c - 1, j + 1, by omega, by omega, by go_num, rfl⟩
          case measure => simp [intOf]; omega
        · replace hfs := Lib.hid (hfs.out j (by omega))
          go_wp2
          go_returns
          exact ⟨by rw [← hfs.out, ← bs_append]; rfl, rfl⟩
      · have h00 := hng (by omega)
        have hgo : n < c := by omega
        replace hfs := Lib.hid (hfs.out j (by omega))
        clear h00 hng
        go_wp2
        go_returns
        exact ⟨by rw [← hfs.out, ← bs_append]; rfl, rfl⟩
end Go.Proofs.YtmbcddehacfpgaaGreatDoor
