/- The document's own answer of chapter 5: styles, values. -/
import Derived.Test.YtfppfaliepkhgaaDoorAtRef3
namespace Go.Proofs.YtfppfaliepkhgaaDoor
open Go.RowKit

def At.print (b : UInt8) : Bool := decide (33 ≤ b.toNat ∧ b.toNat ≤ 126)
def At.style (l : List UInt8) : Bool := l.all At.print && decide (1 ≤ l.length ∧ l.length ≤ 4)
theorem print_tests (b : UInt8) : (decide ((b.toNat : Int) < 33) = true ∧ At.print b = false) ∨ (decide ((b.toNat : Int) < 33) = false ∧ decide ((126 : Int) < (b.toNat : Int)) = true ∧ At.print b = false) ∨ (decide ((b.toNat : Int) < 33) = false ∧ decide ((126 : Int) < (b.toNat : Int)) = false ∧ At.print b = true) := by
  unfold At.print
  by_cases h : b.toNat < 33
  · exact .inl ⟨by simp; omega, by simp; omega⟩
  · by_cases h' : 126 < b.toNat
    · exact .inr (.inl ⟨by simp; omega, by simp; omega, by simp; omega⟩)
    · exact .inr (.inr ⟨by simp; omega, by simp; omega, by simp; omega⟩)

set_option maxHeartbeats 1000000 in
set_option maxRecDepth 100000 in
theorem style_any (l : List UInt8) (w : World) (hl : l.length ≤ 140737488355328) :
    Calls Tryd.prog 23 #[.string (bs l)] w fun e w' => e = .returned (.bool (At.style l)) ∧ w = w' := by
  have hsz := bs_size l
  go_enter Tryd.func23, Tryd.ntmps23
  go_wp2_with fail
  go_loop [3] (fun u => ∃ k : Nat, k ≤ l.length ∧ u = .int .i64 k ∧ Hid (l.all At.print = (l.drop k).all At.print)) (fun u => l.length - (intOf u).toNat)
  case atStart => exact ⟨0, by omega, rfl, Lib.hid rfl⟩
  case round =>
    obtain ⟨k, hk, rfl, hf⟩ := hrel
    by_cases hlt : k < l.length
    · have hx := run_byte hlt w
      have hd : (l.drop k).all At.print = (At.print l[k] && (l.drop (k + 1)).all At.print) := by rw [List.drop_eq_getElem_cons hlt, List.all_cons]
      rcases print_tests l[k] with ⟨g1, h⟩ | ⟨g1, g2, h⟩ | ⟨g1, g2, h⟩
      case inr.inr =>
        have hf2 : Hid (l.all At.print = (l.drop (k + 1)).all At.print) := Lib.hid (by rw [hf.out, hd, h, Bool.true_and])
        clear hd h
        go_wp2
        go_round
        case rel => exact ⟨k + 1, by omega, by go_num, hf2⟩
        case measure => simp [intOf]; omega
      all_goals
        have hfin : Hid (At.style l = false) := Lib.hid (by unfold At.style; rw [hf.out, hd, h, Bool.false_and, Bool.false_and])
        clear hd h
        go_wp2
        go_returns
        exact ⟨by rw [hfin.out]; rfl, rfl⟩
    · have hall : l.all At.print = true := by rw [hf.out, List.drop_eq_nil_of_le (by omega)]; rfl
      have hways : (decide ((1 : Int) ≤ (l.length : Int)) = false ∧ At.style l = false) ∨ (decide ((1 : Int) ≤ (l.length : Int)) = true ∧ decide ((l.length : Int) ≤ 4) = At.style l) := by
        unfold At.style
        rw [hall, Bool.true_and]
        by_cases h : 1 ≤ l.length
        · refine .inr ⟨by simp; omega, ?_⟩
          rw [decide_eq_decide]; omega
        · exact .inl ⟨by simp; omega, by simp; omega⟩
      clear hall hf
      rcases hways with ⟨g1, h⟩ | ⟨g1, h⟩
      · replace h := Lib.hid h
        go_wp2
        go_returns
        exact ⟨by rw [h.out]; rfl, rfl⟩
      · go_wp2
        go_returns
        exact ⟨rfl, rfl⟩

/-- with \ ahead of " and \ -/
def At.esc : List UInt8 → List UInt8
  | [] => []
  | b :: r => if b = 34 ∨ b = 92 then 92 :: b :: At.esc r else b :: At.esc r
theorem At.esc_len (l : List UInt8) : (At.esc l).length ≤ 2 * l.length := by
  induction l with
  | nil => simp [At.esc]
  | cons b r ih => simp only [At.esc]; split <;> simp only [List.length_cons] <;> omega
def At.value (l : List UInt8) : List UInt8 := if At.bare l = true ∧ (32 : UInt8) ∉ l ∧ (9 : UInt8) ∉ l then l else 34 :: (At.esc l ++ [34])

theorem esc_at {l t : List UInt8} {k : Nat} (hk : k < l.length) (h : t ++ At.esc (l.drop k) = 34 :: At.esc l) : (l[k] = 34 ∨ l[k] = 92 → (t ++ [92]) ++ [l[k]] ++ At.esc (l.drop (k + 1)) = 34 :: At.esc l) ∧ (¬ (l[k] = 34 ∨ l[k] = 92) → (t ++ [l[k]]) ++ At.esc (l.drop (k + 1)) = 34 :: At.esc l) := by
  rw [List.drop_eq_getElem_cons hk] at h
  refine ⟨fun hc => ?_, fun hc => ?_⟩
  · rw [At.esc, if_pos hc] at h; rw [← h]; simp
  · rw [At.esc, if_neg hc] at h; rw [← h]; simp

set_option maxHeartbeats 4000000 in
set_option maxRecDepth 100000 in
theorem value_any (l : List UInt8) (w : World) (hl : l.length ≤ 1000000000) :
    Calls Tryd.prog 21 #[.string (bs l)] w fun e w' => e = .returned (.string (bs (At.value l))) ∧ Below w.heap.size w w' := by
  have hsz := bs_size l
  have hb := bare_any l
  have h32 : ∀ w, Calls Tryd.prog 31 #[.string (bs l), .int .u8 32] w fun e w' => e = .returned (.bool (decide ((32 : UInt8) ∈ l))) ∧ w = w' := fun w => has5_any l 32 w (by omega)
  have h9 : ∀ w, Calls Tryd.prog 31 #[.string (bs l), .int .u8 9] w fun e w' => e = .returned (.bool (decide ((9 : UInt8) ∈ l))) ∧ w = w' := fun w => has5_any l 9 w (by omega)
  have hways : (At.bare l = true ∧ decide ((32 : UInt8) ∈ l) = false ∧ decide ((9 : UInt8) ∈ l) = false ∧ At.value l = l) ∨ (At.bare l = false ∧ At.value l = 34 :: (At.esc l ++ [34])) ∨
      (At.bare l = true ∧ decide ((32 : UInt8) ∈ l) = true ∧ At.value l = 34 :: (At.esc l ++ [34])) ∨ (At.bare l = true ∧ decide ((32 : UInt8) ∈ l) = false ∧ decide ((9 : UInt8) ∈ l) = true ∧ At.value l = 34 :: (At.esc l ++ [34])) := by
    unfold At.value
    simp only [decide_eq_false_iff_not, decide_eq_true_eq]
    by_cases a : At.bare l = true
    · by_cases b : (32 : UInt8) ∈ l
      · exact .inr (.inr (.inl ⟨a, b, if_neg (fun h => h.2.1 b)⟩))
      · by_cases c : (9 : UInt8) ∈ l
        · exact .inr (.inr (.inr ⟨a, b, c, if_neg (fun h => h.2.2 c)⟩))
        · exact .inl ⟨a, b, c, if_pos ⟨a, b, c⟩⟩
    · exact .inr (.inl ⟨by simpa using a, if_neg (fun h => a h.1)⟩)
  have hel := At.esc_len l
  rcases hways with ⟨a, b, c, hv⟩ | hways
  · rw [a] at hb
    rw [b] at h32
    rw [c] at h9
    replace hv := Lib.hid hv
    clear a b c
    go_enter Tryd.func21, Tryd.ntmps21
    go_wp2_with fail
    refine (hb _).mono ?_
    rintro e w1 ⟨rfl, hb1⟩
    go_wp2_with fail
    refine (h32 _).mono ?_
    rintro e w' ⟨rfl, rfl⟩
    go_wp2_with fail
    refine (h9 _).mono ?_
    rintro e w' ⟨rfl, rfl⟩
    go_wp2
    go_ret
    exact ⟨by rw [hv.out]; rfl, hb1⟩
  · have hv : Hid (At.value l = 34 :: (At.esc l ++ [34])) := Lib.hid (by rcases hways with ⟨_, h⟩ | ⟨_, _, h⟩ | ⟨_, _, _, h⟩ <;> exact h)
    have hways2 : (At.bare l = false) ∨ (At.bare l = true ∧ decide ((32 : UInt8) ∈ l) = true) ∨ (At.bare l = true ∧ decide ((32 : UInt8) ∈ l) = false ∧ decide ((9 : UInt8) ∈ l) = true) := by
      rcases hways with ⟨h, _⟩ | ⟨h, h', _⟩ | ⟨h, h', h'', _⟩
      · exact .inl h
      · exact .inr (.inl ⟨h, h'⟩)
      · exact .inr (.inr ⟨h, h', h''⟩)
    clear hways
    go_enter Tryd.func21, Tryd.ntmps21
    go_wp2_with fail
    refine (hb _).mono ?_
    rintro e w1 ⟨rfl, hb1⟩
    replace hb1 := Lib.hid hb1
    rcases hways2 with a | ⟨a, b⟩ | ⟨a, b, c⟩
    case' inl => rw [a]; clear a; go_wp2_with fail
    case' inr.inl =>
      rw [a]
      rw [b] at h32
      clear a b
      go_wp2_with fail
      refine (h32 _).mono ?_
      rintro e w' ⟨rfl, rfl⟩
      go_wp2_with fail
    case' inr.inr =>
      rw [a]
      rw [b] at h32
      rw [c] at h9
      clear a b c
      go_wp2_with fail
      refine (h32 _).mono ?_
      rintro e w' ⟨rfl, rfl⟩
      go_wp2_with fail
      refine (h9 _).mono ?_
      rintro e w' ⟨rfl, rfl⟩
      go_wp2_with fail
    all_goals
      go_loop [3, 4] (fun v u => ∃ (t : List UInt8) (k : Nat), k ≤ l.length ∧ t.length ≤ 1 + 2 * k ∧ v = .string (bs t) ∧ u = .int .i64 (k : Int) ∧ Hid (t ++ At.esc (l.drop k) = 34 :: At.esc l)) (fun _ u => l.length - (intOf u).toNat)
      case atStart => exact ⟨[34], 0, by omega, by simp, rfl, rfl, Lib.hid rfl⟩
      case round =>
        obtain ⟨t, k, hk, htl, rfl, rfl, hf⟩ := hrel
        have hzt := bs_size t
        rcases Nat.lt_or_eq_of_le hk with hlt | rfl
        · have hx := run_byte hlt
          have ho := fun w => run_one hlt w
          have hn := esc_at hlt hf.out
          have hz1 : (bs [l[k]]).size = 1 := rfl
          by_cases hc : l[k] = 34 ∨ l[k] = 92
          · have hf2 := Lib.hid (hn.1 hc)
            have hc2 : (((l[k].toNat : Int) == 34) = true) ∨ (((l[k].toNat : Int) == 34) = false ∧ ((l[k].toNat : Int) == 92) = true) := by
              rcases hc with hc | hc <;> rw [hc]
              · exact .inl rfl
              · exact .inr ⟨rfl, rfl⟩
            obtain ⟨b, hbb⟩ : ∃ b, l[k] = b := ⟨_, rfl⟩
            rw [hbb] at hx ho hf2 hz1 hc2
            clear hc hn hbb
            rcases hc2 with g1 | ⟨g1, g2⟩
            all_goals
              go_wp2
              go_round
              case rel => exact ⟨t ++ [92] ++ [b], k + 1, by omega, by simp; omega, by rw [← bs_append, ← bs_append]; rfl, by go_num, hf2⟩
              case measure => simp [intOf]; omega
          · have hf2 := Lib.hid (hn.2 hc)
            have g1 : ((l[k].toNat : Int) == 34) = false := byte_ne (n := 34) (by omega) (fun h => hc (.inl h))
            have g2 : ((l[k].toNat : Int) == 92) = false := byte_ne (n := 92) (by omega) (fun h => hc (.inr h))
            clear hc hn
            go_wp2
            go_round
            case rel => exact ⟨t ++ [l[k]], k + 1, by omega, by simp; omega, by rw [← bs_append], by go_num, hf2⟩
            case measure => simp [intOf]; omega
        · have hfin : Hid (bs (At.value l) = bs t ++ ⟨#[34]⟩) := Lib.hid (by
            have := hf.out
            rw [List.drop_length] at this
            rw [hv.out, show (⟨#[34]⟩ : ByteArray) = bs [34] from rfl, bs_append, ← List.cons_append, ← this]; simp [At.esc])
          go_wp2
          go_returns
          exact ⟨by rw [hfin.out]; rfl, hb1.out⟩
end Go.Proofs.YtfppfaliepkhgaaDoor
