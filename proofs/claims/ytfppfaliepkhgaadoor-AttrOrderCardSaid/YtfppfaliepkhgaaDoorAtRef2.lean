/- The document's own answer of chapter 5: texts in quotes, texts that need none. -/
import Derived.Test.YtfppfaliepkhgaaDoorAtRef
import Derived.Test.YtfppfaliepkhgaaDoorRnIter
namespace Go.Proofs.YtfppfaliepkhgaaDoor
open Go.RowKit

def qv (a : Nat) : Option (List UInt8 × Nat) → Value
  | none => .tuple #[.string ⟨#[]⟩, .int .i64 0, .bool false]
  | some x => .tuple #[.string (bs x.1), .int .i64 ((a + 1 + x.2 : Nat) : Int), .bool true]

/-- what is read from place k on, behind the text t that was read from a on -/
def qAt (l : List UInt8) (a k : Nat) (t : List UInt8) : Option (List UInt8 × Nat) := (At.qd (l.drop k)).map fun x => (t ++ x.1, (k - (a + 1)) + x.2)
theorem qAt_start (l : List UInt8) (a : Nat) : qAt l a (a + 1) [] = At.qd (l.drop (a + 1)) := by
  unfold qAt
  cases At.qd (l.drop (a + 1)) with
  | none => rfl
  | some x => simp
theorem qAt_nil {l : List UInt8} {a k : Nat} {t : List UInt8} (h : ¬ k < l.length) : qAt l a k t = none := by
  unfold qAt; rw [List.drop_eq_nil_of_le (by omega), At.qd_nil]; rfl
theorem qAt_end {l : List UInt8} {a k : Nat} {t : List UInt8} (hk : k < l.length) (h : l[k] = 34) : qAt l a k t = some (t, (k - (a + 1)) + 1) := by
  unfold qAt; rw [List.drop_eq_getElem_cons hk, h, At.qd_end]; simp
theorem qAt_one {l : List UInt8} {a k : Nat} {t : List UInt8} (hk : k < l.length) (ha : a + 1 ≤ k) (h : l[k] ≠ 34) (h' : l[k] ≠ 92) : qAt l a k t = qAt l a (k + 1) (t ++ [l[k]]) := by
  unfold qAt; rw [List.drop_eq_getElem_cons hk, At.qd_one _ h h']
  cases At.qd (l.drop (k + 1)) with
  | none => rfl
  | some x => simp; omega
theorem qAt_last {l : List UInt8} {a k : Nat} {t : List UInt8} (hk : k < l.length) (h : l[k] = 92) (hk' : ¬ k + 1 < l.length) : qAt l a k t = none := by
  unfold qAt; rw [List.drop_eq_getElem_cons hk, h, List.drop_eq_nil_of_le (by omega), At.qd_last]; rfl
theorem qAt_esc {l : List UInt8} {a k : Nat} {t : List UInt8} (hk : k + 1 < l.length) (ha : a + 1 ≤ k) (h : l[k] = 92) (h' : l[k + 1] = 34 ∨ l[k + 1] = 92) : qAt l a k t = qAt l a (k + 2) (t ++ [l[k + 1]]) := by
  unfold qAt; rw [List.drop_eq_getElem_cons (show k < l.length by omega), h, List.drop_eq_getElem_cons hk, At.qd_esc _ h']
  cases At.qd (l.drop (k + 2)) with
  | none => simp_all
  | some x => simp_all; omega
theorem qAt_bad {l : List UInt8} {a k : Nat} {t : List UInt8} (hk : k + 1 < l.length) (h : l[k] = 92) (h' : ¬ (l[k + 1] = 34 ∨ l[k + 1] = 92)) : qAt l a k t = none := by
  unfold qAt; rw [List.drop_eq_getElem_cons (show k < l.length by omega), h, List.drop_eq_getElem_cons hk, At.qd_bad _ h']; rfl

set_option maxHeartbeats 4000000 in
set_option maxRecDepth 100000 in
theorem quoted_any (l : List UInt8) (a : Nat) (w : World) (hl : l.length ≤ 140737488355328) (ha : a < l.length) :
    Calls Tryd.prog 55 #[.string (bs l), .int .i64 (a : Int)] w fun e w' => e = .returned (qv a (At.qd (l.drop (a + 1)))) ∧ w = w' := by
  have hsz := bs_size l
  go_enter Tryd.func55, Tryd.ntmps55
  go_wp2_with fail
  go_loop [7, 8] (fun v u => ∃ (t : List UInt8) (k : Nat), a + 1 ≤ k ∧ k ≤ l.length ∧ t.length ≤ k ∧ v = .string (bs t) ∧ u = .int .i64 (k : Int) ∧ Hid (At.qd (l.drop (a + 1)) = qAt l a k t)) (fun _ u => l.length - (intOf u).toNat)
  case atStart => exact ⟨[], a + 1, by omega, by omega, by simp, rfl, by go_num, Lib.hid (qAt_start l a).symm⟩
  case round =>
    obtain ⟨t, k, hak, hk, htk, rfl, rfl, hf⟩ := hrel
    have hzt := bs_size t
    by_cases hlt : k < l.length
    · have hx := run_byte hlt w
      by_cases h34 : l[k] = 34
      · have ht := byte_eq (n := 34) (by omega) h34
        have hfin : Hid (qv a (At.qd (l.drop (a + 1))) = .tuple #[.string (bs t), .int .i64 ((k : Int) + 1), .bool true]) := Lib.hid (by
          rw [hf.out, qAt_end hlt h34]
          simp only [qv]
          rw [show ((a + 1 + (k - (a + 1) + 1) : Nat) : Int) = (k : Int) + 1 from by omega])
        clear h34
        go_wp2
        go_returns
        exact ⟨by rw [hfin.out]; rfl, rfl⟩
      · have ht := byte_ne (n := 34) (by omega) h34
        by_cases h92 : l[k] = 92
        · have ht2 := byte_eq (n := 92) (by omega) h92
          by_cases hl1 : k + 1 < l.length
          · have hx1 := fun v hv w => run_byte_at hl1 (v := v) hv w
            have hxa := hx1 ((k : Int) + 1) (by omega)
            have hKe : (((k : Int) + 1) == (l.length : Int)) = false := by rw [beq_eq_false_iff_ne]; omega
            by_cases hc : l[k + 1] = 34 ∨ l[k + 1] = 92
            · have hf2 : Hid (At.qd (l.drop (a + 1)) = qAt l a (k + 2) (t ++ [l[k + 1]])) := Lib.hid (by rw [hf.out, qAt_esc hl1 hak h92 hc])
              have ho1 := fun w => run_one_at hl1 (v := (k : Int) + 1) (u := (k : Int) + 1 + 1) (by omega) (by omega) w
              have ho2 := fun w => run_one_at hl1 (v := (k : Int) + 1) (u := (k : Int) + 2) (by omega) (by omega) w
              have hz1 : (bs [l[k + 1]]).size = 1 := rfl
              have hc2 : (((l[k + 1].toNat : Int) != 34) = false) ∨ ((((l[k + 1].toNat : Int) != 34) = true) ∧ (((l[k + 1].toNat : Int) != 92) = false)) := by
                rcases hc with hc | hc <;> rw [hc]
                · exact .inl rfl
                · exact .inr ⟨rfl, rfl⟩
              obtain ⟨b, hb⟩ : ∃ b, l[k + 1] = b := ⟨_, rfl⟩
              rw [hb] at hxa hf2 ho1 ho2 hz1 hc2
              clear hx1 hc hb h92 h34
              rcases hc2 with hc2 | ⟨hc1, hc2⟩
              all_goals
                go_wp2
                go_round
                case rel => exact ⟨t ++ [b], k + 2, by omega, by omega, by rw [List.length_append]; simp; omega, by rw [bs_append], by go_num, hf2⟩
                case measure => simp [intOf]; omega
            · have hfin : Hid (qv a (At.qd (l.drop (a + 1))) = .tuple #[.string ⟨#[]⟩, .int .i64 0, .bool false]) := Lib.hid (by rw [hf.out, qAt_bad hl1 h92 hc]; rfl)
              have hc1 : ((l[k + 1].toNat : Int) != 34) = true := by have := byte_ne (n := 34) (by omega) (fun h => hc (.inl h)); simpa using this
              have hc2 : ((l[k + 1].toNat : Int) != 92) = true := by have := byte_ne (n := 92) (by omega) (fun h => hc (.inr h)); simpa using this
              clear hx1 hc h92 h34
              go_wp2
              go_returns
              exact ⟨by rw [hfin.out]; rfl, rfl⟩
          · have hfin : Hid (qv a (At.qd (l.drop (a + 1))) = .tuple #[.string ⟨#[]⟩, .int .i64 0, .bool false]) := Lib.hid (by rw [hf.out, qAt_last hlt h92 hl1]; rfl)
            have hKe : (((k : Int) + 1) == (l.length : Int)) = true := by rw [beq_iff_eq]; omega
            clear h92 h34
            go_wp2
            go_returns
            exact ⟨by rw [hfin.out]; rfl, rfl⟩
        · have ht2 := byte_ne (n := 92) (by omega) h92
          have hf2 : Hid (At.qd (l.drop (a + 1)) = qAt l a (k + 1) (t ++ [l[k]])) := Lib.hid (by rw [hf.out, qAt_one hlt hak h34 h92])
          have ho1 := fun w => run_one hlt w
          have hz1 : (bs [l[k]]).size = 1 := rfl
          clear h92 h34
          go_wp2
          go_round
          case rel => exact ⟨t ++ [l[k]], k + 1, by omega, by omega, by rw [List.length_append]; simp; omega, by rw [bs_append], by go_num, hf2⟩
          case measure => simp [intOf]; omega
    · have hfin : Hid (qv a (At.qd (l.drop (a + 1))) = .tuple #[.string ⟨#[]⟩, .int .i64 0, .bool false]) := Lib.hid (by rw [hf.out, qAt_nil hlt]; rfl)
      go_wp2
      go_returns
      exact ⟨by rw [hfin.out]; rfl, rfl⟩
end Go.Proofs.YtfppfaliepkhgaaDoor
