/- ColsFlat: with tabs as blanks up to the next stop a line is as wide, and as deep. -/
import Derived.Test.YthjhbckacpnhnaaClMade
import Derived.Test.YthjhbckacpnhnaaClFlat
namespace Go.Proofs.Ythjhbckacpnhnaa
open Go.RowKit

/-- a byte of a text, as a text -/
theorem run_one {S : List UInt8} {i : Nat} (h : i < S.length) (w : World) :
    (Instr.slice 9 (.string (bs S)) (some (.int .i64 (i : Int))) (some (.int .i64 ((i : Int) + 1))) none).run Try.prog w = .ok (.string (bs [S[i]])) w := by
  have hs := bs_size S
  have he : (bs S).extract i (i + 1) = bs [S[i]] := by
    apply ByteArray.ext
    simp only [bs, ByteArray.data_extract, List.extract_toArray, List.extract_eq_take_drop]
    rw [List.drop_eq_getElem_cons h, show i + 1 - i = 1 from by omega]; rfl
  have hr := run_slice_string (P := Try.prog) w 9 (bs S) .i64 .i64 (i : Int) ((i : Int) + 1) Try.underlying9 (by omega) (by omega) (by omega)
  rw [hr, show ((i : Int)).toNat = i from by omega, show ((i : Int) + 1).toNat = i + 1 from by omega, he]

/-- blanks up to the next stop -/
theorem run_stop (c : Nat) (w : World) :
    (Instr.slice 9 (.string ⟨#[32, 32, 32, 32]⟩) (some (.int .i64 ((c : Int) % 4))) none none).run Try.prog w = .ok (.string (bs (List.replicate (4 - c % 4) 32))) w := by
  have h4 : c % 4 < 4 := Nat.mod_lt _ (by omega)
  have h := run_from (S := [32, 32, 32, 32]) (i := c % 4) (by simp; omega) w
  rw [show (c : Int) % 4 = ((c % 4 : Nat) : Int) from by omega]
  rw [show (⟨#[32, 32, 32, 32]⟩ : ByteArray) = bs [32, 32, 32, 32] from rfl, h]
  rcases (show c % 4 = 0 ∨ c % 4 = 1 ∨ c % 4 = 2 ∨ c % 4 = 3 from by omega) with e | e | e | e <;> rw [e] <;> rfl

theorem fl_next {l F : List UInt8} {k : Nat} (hk : k < l.length) (h : F ++ Cl.fl (l.drop k) F.length = Cl.fl l 0) :
    (l[k] = 9 → (F ++ List.replicate (4 - F.length % 4) 32) ++ Cl.fl (l.drop (k + 1)) (F ++ List.replicate (4 - F.length % 4) 32).length = Cl.fl l 0) ∧
    (l[k] ≠ 9 → (F ++ [l[k]]) ++ Cl.fl (l.drop (k + 1)) (F ++ [l[k]]).length = Cl.fl l 0) := by
  rw [List.drop_eq_getElem_cons hk] at h
  refine ⟨fun h9 => ?_, fun h9 => ?_⟩
  · rw [h9, Cl.fl_tab] at h
    rw [List.append_assoc, List.length_append, List.length_replicate]; exact h
  · rw [Cl.fl_one _ _ h9] at h
    rw [List.append_assoc, List.length_append]; exact h

theorem fl_part {l F : List UInt8} {k : Nat} (hl : l.length ≤ 30) (h : F ++ Cl.fl (l.drop k) F.length = Cl.fl l 0) : F.length ≤ 120 := by
  have h1 := congrArg List.length h
  have h2 := Cl.fl_len l 0
  rw [List.length_append] at h1; omega

set_option maxHeartbeats 4000000 in
set_option maxRecDepth 100000 in
theorem flat_any (l0 : List UInt8) (A0 : Option Addr) (c0 : Nat) (w : World) (h0 : Row w w.heap.size 1 A0 l0.length (bcells l0)) (hc0 : l0.length ≤ c0) (hm0 : c0 ≤ maxLen) :
    Calls Try.prog 6 #[.slice A0 l0.length c0] w fun e w' => e = .returned (.bool true) ∧ Below w.heap.size w w' := by
  have hl1 : l0.length ≤ 9223372036854775807 := by unfold maxLen at hm0; omega
  go_enter Try.func6, Try.ntmps6
  go_wp2_with fail
  refine (made_any l0 _ _ _ h0 hl1).mono ?_
  rintro e w1 ⟨⟨l, rfl, hl, _⟩, hb1⟩
  replace hb1 := Lib.hid hb1
  clear h0 hc0 hm0
  have hsz := bs_size l
  go_wp2_with fail
  go_loop [4, 5] (fun v i => ∃ (k : Nat) (F : List UInt8), k ≤ l.length ∧ Hid (F ++ Cl.fl (l.drop k) F.length = Cl.fl l 0) ∧ v = .string (bs F) ∧ i = .int .i64 k) (fun _ i => l.length - (intOf i).toNat)
  case atStart => exact ⟨0, [], Nat.zero_le _, Lib.hid rfl, rfl, rfl⟩
  case round =>
    obtain ⟨k, F, hk, hF, rfl, rfl⟩ := hrel
    have hFs := fl_part hl hF.out
    have hz1 := bs_size F
    rcases Nat.lt_or_eq_of_le hk with hlt | rfl
    · have hx := run_byte hlt w1
      have hn := fl_next hlt hF.out
      by_cases h9 : l[k] = 9
      · have t9 := byte_eq (n := 9) (by omega) h9
        have t9' : ((l[k].toNat : Int) != (9 : Int)) = false := by simpa using t9
        replace hn := Lib.hid (hn.1 h9)
        have hst := run_stop F.length w1
        have hz2 : (bs (List.replicate (4 - F.length % 4) 32)).size = 4 - F.length % 4 := by rw [bs_size, List.length_replicate]
        clear h9 t9
        go_wp2_with fail
        go_round
        case rel => exact ⟨k + 1, F ++ List.replicate (4 - F.length % 4) 32, by omega, hn, by rw [bs_append], by go_num⟩
        case measure => simp [intOf]; omega
      · have t9 := byte_ne (n := 9) (by omega) h9
        have t9' : ((l[k].toNat : Int) != (9 : Int)) = true := by simpa using t9
        replace hn := Lib.hid (hn.2 h9)
        have hst := run_one hlt w1
        have hz2 : (bs [l[k]]).size = 1 := rfl
        clear h9 t9
        go_wp2_with fail
        go_round
        case rel => exact ⟨k + 1, F ++ [l[k]], by omega, hn, by rw [bs_append], by go_num⟩
        case measure => simp [intOf]; omega
    · have hFl : F = Cl.fl l 0 := by
        have := hF.out
        rw [List.drop_eq_nil_of_le (Nat.le_refl _)] at this
        simpa [Cl.fl] using this
      obtain ⟨h1, h2, h3, h4, h5⟩ := Cl.fl_all l 0 (by unfold Cl.small; omega)
      rw [← hFl] at h1 h2 h3 h4 h5
      have i1 := indent_any l w1 (by omega)
      have i2 := indent_any F w1 (by omega)
      have i3 := width_any l w1 (by omega)
      have i4 := width_any F w1 (by omega)
      have i5 := empty_any l w1 (by omega)
      have i6 := empty_any F w1 (by omega)
      rw [← h1] at i1
      rw [h3] at i3
      rw [h4] at i4
      rw [decide_eq_decide.2 h5] at i5
      obtain ⟨E, hE⟩ : ∃ E, decide ((Cl.lead Cl.inf F 0).2 = F.length) = E := ⟨_, rfl⟩
      rw [hE] at i5 i6
      obtain ⟨K, hK⟩ : ∃ K, (Cl.lead Cl.inf F 0).2 = K := ⟨_, rfl⟩
      obtain ⟨K', hK'⟩ : ∃ K', (Cl.lead Cl.inf l 0).2 = K' := ⟨_, rfl⟩
      have hC : (Cl.lead Cl.inf F 0).1 = K := by omega
      rw [hC] at i1 i2
      rw [hK] at i2
      rw [hK'] at i1
      simp only [Nat.zero_add] at i3 i4
      clear h1 h2 h3 h4 h5 hE hK hK' hC hFl
      go_wp2_with fail
      refine i1.mono ?_
      rintro e w2 ⟨rfl, rfl⟩
      go_wp2_with fail
      refine i2.mono ?_
      rintro e w2 ⟨rfl, rfl⟩
      go_wp2_with fail
      refine i3.mono ?_
      rintro e w2 ⟨rfl, rfl⟩
      go_wp2_with fail
      refine i4.mono ?_
      rintro e w2 ⟨rfl, rfl⟩
      go_wp2_with fail
      refine i5.mono ?_
      rintro e w2 ⟨rfl, rfl⟩
      go_wp2_with fail
      refine i6.mono ?_
      rintro e w2 ⟨rfl, rfl⟩
      go_wp2_with fail
      refine (known_any _).mono ?_
      rintro e w3 ⟨rfl, hb3⟩
      go_wp2
      go_returns
      exact ⟨by simp, ext_trans hb1.out hb3⟩
end Go.Proofs.Ythjhbckacpnhnaa
