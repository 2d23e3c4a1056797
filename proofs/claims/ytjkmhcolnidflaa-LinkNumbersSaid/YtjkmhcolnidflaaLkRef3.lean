/- The document's own links: where one leads, whether one may go there. -/
import Derived.Test.YtjkmhcolnidflaaLkRef2
namespace Go.Proofs.Ytjkmhcolnidflaa
open Go.RowKit

theorem dest_no {l : List UInt8} {at_ : Int} (h : at_ < 0 ∨ (0 ≤ at_ ∧ (l.length : Int) ≤ at_) ∨ (0 ≤ at_ ∧ ∃ h : at_.toNat < l.length, l[at_.toNat] ≠ 40)) : Lk.dest l at_ = none := by
  rcases h with h | ⟨h0, h⟩ | ⟨h0, hl, h⟩
  · exact Lk.dest_neg h
  · obtain ⟨k, rfl⟩ : ∃ k : Nat, at_ = (k : Int) := ⟨at_.toNat, by omega⟩
    exact Lk.dest_off (.inl (by omega))
  · obtain ⟨k, rfl⟩ : ∃ k : Nat, at_ = (k : Int) := ⟨at_.toNat, by omega⟩
    refine Lk.dest_off (.inr ?_)
    rw [List.getD_eq_getElem?_getD, List.getElem?_eq_getElem (by simpa using hl)]
    simpa using h

set_option maxHeartbeats 4000000 in
set_option maxRecDepth 100000 in
theorem rdest_out (l : List UInt8) (at_ : Int) (_hs : l.length ≤ 1000000000) (ho : at_ < 0 ∨ (0 ≤ at_ ∧ (l.length : Int) ≤ at_) ∨ (0 ≤ at_ ∧ ∃ h : at_.toNat < l.length, l[at_.toNat] ≠ 40)) (w : World) :
    Calls Try.prog 19 #[.string (bs l), .int .i64 at_] w fun e w' => e = .returned (spanV none) ∧ Below w.heap.size w w' := by
  have hsz := bs_size l
  rcases ho with h | ⟨h0, h⟩ | ⟨h0, hl, h⟩
  · go_enter Try.func19, Try.ntmps19
    go_wp2
    go_ret3
    exact ⟨rfl, Below.refl _ _⟩
  · go_enter Try.func19, Try.ntmps19
    go_wp2
    go_ret3
    exact ⟨rfl, Below.refl _ _⟩
  · have hix := run_byte_at (i := at_.toNat) (v := at_) (S := l) hl (by omega) w
    have h1 : ((l[at_.toNat].toNat : Int) == 40) = false := byte_ne (n := 40) (by omega) h
    have h' : ((l[at_.toNat].toNat : Int) != 40) = true := by simp only [bne, h1]; rfl
    clear h
    go_enter Try.func19, Try.ntmps19
    go_wp2
    go_ret3
    exact ⟨rfl, Below.refl _ _⟩

set_option maxHeartbeats 8000000 in
set_option maxRecDepth 100000 in
theorem rdest_on (l : List UInt8) (k : Nat) (hk : k < l.length) (hs : l.length ≤ 1000000000) (h40 : l[k] = 40) (w : World) :
    Calls Try.prog 19 #[.string (bs l), .int .i64 (k : Int)] w fun e w' => e = .returned (spanV (Lk.dest l (k : Int))) ∧ Below w.heap.size w w' := by
  have hsz := bs_size l
  have hix := run_byte hk w
  have ht : ((l[k].toNat : Int) == 40) = true := byte_eq (n := 40) (by omega) h40
  have ht2 : ((l[k].toNat : Int) != 40) = false := by simp only [bne, ht]; rfl
  have hcl := Lk.dest_on hk (by rw [List.getD_eq_getElem?_getD, List.getElem?_eq_getElem hk]; simpa using h40)
  obtain ⟨R, hR⟩ : ∃ R, R = Lk.dest l (k : Int) := ⟨_, rfl⟩
  rw [← hR] at hcl ⊢
  clear hR h40
  replace hcl := Lib.hid hcl
  go_enter Try.func19, Try.ntmps19
  go_wp2_with fail
  have hdk : decide (l.length ≤ k) = false := decide_eq_false (by omega)
  try simp only [hdk, Bool.or_false]
  clear hdk
  go_loopw [7] (fun u wr => ∃ i : Nat, k + 1 ≤ i ∧ i ≤ l.length ∧ u = .int .i64 i ∧ Hid (Lk.dends l (k + 1) = Lk.dends l i) ∧ Below w.heap.size w wr) (fun u _ => l.length - (intOf u).toNat)
  case atStart => exact ⟨k + 1, by omega, by omega, by go_num, Lib.hid rfl, Below.refl _ _⟩
  case round =>
    obtain ⟨i, hi1, hi2, rfl, he, hb⟩ := hrel
    clear hix ht ht2
    by_cases hil : i < l.length
    · have hst := Lk.dends_step hil
      have hmo := Es.next_more hil
      rw [← he.out] at hst
      have q2 := fun w => rnext_any l (i : Int) (by omega) w
      rw [Int.toNat_natCast] at q2
      unfold nextV at q2
      obtain ⟨⟨r, nx, its⟩, hN⟩ : ∃ x, x = Es.next l i := ⟨_, rfl⟩
      rw [← hN] at q2 hst hmo
      simp only at q2 hst hmo
      clear hN
      cases its with
      | true =>
        have he2 : Hid (Lk.dends l (k + 1) = Lk.dends l nx) := Lib.hid (by rw [hst, if_neg (by simp), if_neg (by simp)])
        clear he hst
        go_wp2_with fail
        refine (q2 _).mono ?_
        rintro e w2 ⟨rfl, hb2⟩
        replace hb2 := ext_trans hb hb2
        go_wp2_with fail
        go_roundw
        case rel => exact ⟨nx, by omega, by omega, rfl, he2, hb2⟩
        case measure => simp [intOf]; omega
      | false =>
        by_cases h41 : r = 41
        · have hres : R = some (Ru.enc (Es.plain (mid l (k + 1) i)), i + 1) := by rw [hcl.out, hst, if_pos ⟨rfl, h41⟩]; rfl
          have t1 : (((r : Nat) : Int) == 41) = true := by simp [h41]
          have hcut := fun w => run_mid_at (S := l) (i := k + 1) (j := i) (v := (k : Int) + 1) (u := (i : Int)) (by omega) (by omega) (by omega) rfl w
          have q3 := fun w => rplain_any (mid l (k + 1) i) w (by rw [mid_len (by omega)]; omega)
          clear he hst h41 hcl
          obtain ⟨T, hT⟩ : ∃ T, T = Ru.enc (Es.plain (mid l (k + 1) i)) := ⟨_, rfl⟩
          rw [← hT] at q3 hres
          clear hT
          subst hres
          go_wp2_with fail
          refine (q2 _).mono ?_
          rintro e w2 ⟨rfl, hb2⟩
          replace hb2 := ext_trans hb hb2
          have hcut1 := hcut w2
          go_wp2_with fail
          refine (q3 _).mono ?_
          rintro e w3 ⟨rfl, hb3⟩
          replace hb3 := ext_trans hb2 hb3
          go_wp2
          go_ret3
          exact ⟨rfl, hb3⟩
        · have t1 : (((r : Nat) : Int) == 41) = false := by simp; omega
          rw [if_neg (fun h => h41 h.2)] at hst
          by_cases h40 : r = 40
          · have hres : R = none := by rw [hcl.out, hst, if_pos ⟨rfl, .inl h40⟩]; rfl
            have t2 : (((r : Nat) : Int) == 40) = true := by simp [h40]
            subst hres
            clear he hst h41 hcl h40
            go_wp2_with fail
            refine (q2 _).mono ?_
            rintro e w2 ⟨rfl, hb2⟩
            replace hb2 := ext_trans hb hb2
            go_wp2
            go_ret3
            exact ⟨rfl, hb2⟩
          · have t2 : (((r : Nat) : Int) == 40) = false := by simp; omega
            have qb := fun w => rblank_any (r : Int) w
            cases hbl : blankB (r : Int) with
            | true =>
              have hres : R = none := by rw [hcl.out, hst, if_pos ⟨rfl, .inr hbl⟩]; rfl
              rw [hbl] at qb
              subst hres
              clear he hst h41 hcl h40 hbl
              go_wp2_with fail
              refine (q2 _).mono ?_
              rintro e w2 ⟨rfl, hb2⟩
              replace hb2 := ext_trans hb hb2
              go_wp2_with fail
              refine (qb _).mono ?_
              rintro e w3 ⟨rfl, rfl⟩
              go_wp2
              go_ret3
              exact ⟨rfl, hb2⟩
            | false =>
              have he2 : Hid (Lk.dends l (k + 1) = Lk.dends l nx) := Lib.hid (by rw [hst, if_neg (by rw [hbl]; simp [h40])])
              rw [hbl] at qb
              clear he hst h41 h40 hbl
              go_wp2_with fail
              refine (q2 _).mono ?_
              rintro e w2 ⟨rfl, hb2⟩
              replace hb2 := ext_trans hb hb2
              go_wp2_with fail
              refine (qb _).mono ?_
              rintro e w3 ⟨rfl, rfl⟩
              go_wp2_with fail
              go_roundw
              case rel => exact ⟨nx, by omega, by omega, rfl, he2, hb2⟩
              case measure => simp [intOf]; omega
    · have hres : R = none := by rw [hcl.out, he.out, Lk.dends_out (by omega)]; rfl
      subst hres
      clear hcl he
      go_wp2
      go_ret3
      exact ⟨rfl, hb⟩

theorem rdest_any (l : List UInt8) (at_ : Int) (hs : l.length ≤ 1000000000) (w : World) :
    Calls Try.prog 19 #[.string (bs l), .int .i64 at_] w fun e w' => e = .returned (spanV (Lk.dest l at_)) ∧ Below w.heap.size w w' := by
  by_cases h : at_ < 0 ∨ (0 ≤ at_ ∧ (l.length : Int) ≤ at_) ∨ (0 ≤ at_ ∧ ∃ h : at_.toNat < l.length, l[at_.toNat] ≠ 40)
  · rw [dest_no h]; exact rdest_out l at_ hs h w
  · obtain ⟨k, rfl⟩ : ∃ k : Nat, at_ = (k : Int) := ⟨at_.toNat, by omega⟩
    have hk : k < l.length := by omega
    exact rdest_on l k hk hs (Decidable.byContradiction fun hc => h (.inr (.inr ⟨by omega, by simpa using hk, by simpa using hc⟩))) w

/-- a byte in a new block, as a text -/
theorem run_onetext {c : UInt8} {v : Int} (hv : v = (c.toNat : Int)) (w : World) :
    (convert 22 9 (.slice (some ⟨w.heap.size, 0, none⟩) 1 1)).run Try.prog (w.alloc (.cells #[.int .u8 v] 5)) = .ok (.string (bs [c])) (w.alloc (.cells #[.int .u8 v] 5)) := by
  subst hv
  refine run_text (c := 1) (l := [c]) (B := w.heap.size + 1) ⟨rfl, fun _ => ⟨w.heap.size, 0, rfl, by omega, fun j u hu => ?_⟩⟩ 22 5 9 Try.underlying22 Try.underlying5 Try.underlying9
  have := cells_new w #[.int .u8 (c.toNat : Int)] 5 rfl j u hu
  rwa [show (⟨w.heap.size, 0, none⟩ : Addr).add j = ⟨w.heap.size, 0 + j, none⟩ from by unfold Addr.add; split <;> simp_all] at this

theorem low_up {b : UInt8} (h1 : 65 ≤ b.toNat) (h2 : b.toNat ≤ 90) : (Lk.low b).toNat = b.toNat + 32 ∧ Lk.small (Lk.low b) = true := by
  have h : (Lk.low b).toNat = b.toNat + 32 := by unfold Lk.low; rw [if_pos ⟨h1, h2⟩, UInt8.toNat_add]; simp; omega
  exact ⟨h, (Lk.small_iff _).2 (by omega)⟩
theorem low_id {b : UInt8} (h : b.toNat < 65 ∨ 90 < b.toNat) : Lk.low b = b := by unfold Lk.low; rw [if_neg (by omega)]
theorem low_text_ne {D L : List UInt8} (h : D ≠ L) : ((bs D).toList == L) = false := by rw [bs_toList]; simpa using h
theorem head_none {l : List UInt8} (h : ∀ b ∈ l, b ≠ 58) : Lk.head l = none := by
  unfold Lk.head; rw [if_neg]; simp only [List.contains_iff_mem]; exact fun hc => h 58 hc rfl
theorem head_some {l : List UInt8} {i : Nat} (hi : i < l.length) (h58 : l[i] = 58) (h : ∀ b ∈ l.take i, b ≠ 58) : Lk.head l = some (l.take i) := by
  unfold Lk.head
  rw [if_pos (by simp only [List.contains_iff_mem]; rw [← h58]; exact List.getElem_mem hi)]
  congr 1
  have e : l = l.take i ++ 58 :: l.drop (i + 1) := by rw [← h58, ← List.drop_eq_getElem_cons hi, List.take_append_drop]
  conv => lhs; rw [e]
  rw [List.takeWhile_append_of_pos (fun b hb => by simpa using h b hb)]
  simp

set_option maxHeartbeats 8000000 in
set_option maxRecDepth 100000 in
theorem rsafe_any (l : List UInt8) (hs : l.length ≤ 1000000000000) (w : World) :
    Calls Try.prog 21 #[.string (bs l)] w fun e w' => e = .returned (.bool (Lk.safe l)) ∧ Below w.heap.size w w' := by
  have hsz := bs_size l
  obtain ⟨R, hR⟩ : ∃ R, R = Lk.safe l := ⟨_, rfl⟩
  rw [← hR]
  replace hR := Lib.hid hR
  go_enter Try.func21, Try.ntmps21
  go_wp2_with fail
  go_loopw [3, 4] (fun v u wr => ∃ (i : Nat) (D : List UInt8), i ≤ l.length ∧ D.length ≤ i ∧ u = .int .i64 i ∧ v = .string (bs D) ∧ Hid (D = Lk.word (l.take i)) ∧ Hid (∀ b ∈ l.take i, b ≠ 58) ∧ Below w.heap.size w wr) (fun _ u _ => l.length - (intOf u).toNat)
  case atStart => exact ⟨0, [], by omega, by simp, rfl, rfl, Lib.hid rfl, Lib.hid (by simp), Below.refl _ _⟩
  case round =>
    obtain ⟨i, D, hi, hDi, rfl, rfl, hD, hno, hb⟩ := hrel
    have hDs := bs_size D
    by_cases hil : i < l.length
    · have hx := fun w => run_byte hil w
      have hb8 := l[i].toNat_lt
      by_cases h58 : l[i] = 58
      · have t : ((l[i].toNat : Int) == 58) = true := byte_eq (n := 58) (by omega) h58
        have hx0 := fun w => run_byte_at (S := l) (i := 0) (v := 0) (by omega) rfl w
        have h0 : l.getD 0 0 = l[0] := by rw [List.getD_eq_getElem?_getD, List.getElem?_eq_getElem (by omega)]; rfl
        have hres : R = (l[0] != 35 && (D != Lk.js && D != Lk.data)) := by
          rw [hR.out]; unfold Lk.safe; rw [head_some hil h58 hno.out, h0, hD.out]
        clear hR hD hno h58 h0
        by_cases f0 : l[0] = 35
        · have t0 : ((l[0].toNat : Int) == 35) = true := byte_eq (n := 35) (by omega) f0
          have t0' : ((l[0].toNat : Int) != 35) = false := by simp only [bne, t0]; rfl
          rw [f0] at hres
          simp only [bne_self_eq_false, Bool.false_and] at hres
          subst hres
          clear f0
          go_wp2
          go_ret
          exact ⟨rfl, hb⟩
        · have t0 : ((l[0].toNat : Int) == 35) = false := byte_ne (n := 35) (by omega) f0
          have t0' : ((l[0].toNat : Int) != 35) = true := by simp only [bne, t0]; rfl
          have f0' : (l[0] != 35) = true := by simpa using f0
          rw [f0', Bool.true_and] at hres
          clear f0 f0'
          by_cases f1 : D = Lk.js
          · have e1 : ((bs D).toList == [106, 97, 118, 97, 115, 99, 114, 105, 112, 116]) = true := by rw [bs_toList, f1]; rfl
            have e1' : (bs D == (⟨#[106, 97, 118, 97, 115, 99, 114, 105, 112, 116]⟩ : ByteArray)) = true := by rw [f1]; rfl
            rw [f1] at hres
            simp only [bne_self_eq_false, Bool.false_and] at hres
            subst hres
            clear f1
            go_wp2
            go_ret
            exact ⟨rfl, hb⟩
          · have e1 := low_text_ne f1
            unfold Lk.js at e1
            have f1' : (D != Lk.js) = true := by simpa using f1
            rw [f1', Bool.true_and] at hres
            clear f1 f1'
            by_cases f2 : D = Lk.data
            · have e2 : ((bs D).toList == [100, 97, 116, 97]) = true := by rw [bs_toList, f2]; rfl
              rw [f2] at hres
              simp only [bne_self_eq_false] at hres
              subst hres
              clear f2
              go_wp2
              go_ret
              exact ⟨rfl, hb⟩
            · have e2 := low_text_ne f2
              unfold Lk.data at e2
              have f2' : (D != Lk.data) = true := by simpa using f2
              rw [f2'] at hres
              subst hres
              clear f2 f2'
              go_wp2
              go_ret
              exact ⟨rfl, hb⟩
      · have t : ((l[i].toNat : Int) == 58) = false := byte_ne (n := 58) (by omega) h58
        have hno2 : Hid (∀ b ∈ l.take (i + 1), b ≠ 58) := Lib.hid (by
          intro b hb
          rw [List.take_succ_eq_append_getElem hil, List.mem_append] at hb
          rcases hb with hb | hb
          · exact hno.out b hb
          · simp at hb; rw [hb]; exact h58)
        have hw := Lk.word_snoc (l.take i) l[i]
        rw [← List.take_succ_eq_append_getElem hil, ← hD.out] at hw
        clear hno h58 hD
        obtain ⟨b, hbx⟩ : ∃ b, b = l[i] := ⟨_, rfl⟩
        rw [← hbx] at hx hb8 t hw
        clear hbx
        by_cases hup : 65 ≤ b.toNat ∧ b.toNat ≤ 90
        · obtain ⟨u1, u2⟩ := hup
          obtain ⟨v1, v2⟩ := low_up u1 u2
          rw [if_pos v2] at hw
          obtain ⟨c, hc⟩ : ∃ c, c = Lk.low b := ⟨_, rfl⟩
          rw [← hc] at v1 hw
          clear hc v2
          have hone := fun w => run_onetext (c := c) (v := (b.toNat : Int) + 32) (by omega) w
          have hcat : bs D ++ bs [c] = bs (D ++ [c]) := bs_append D [c]
          have hzc := bs_size [c]
          simp only [List.length_cons, List.length_nil] at hzc
          replace hw := Lib.hid hw
          clear v1
          go_wp2
          go_roundw
          case rel => exact ⟨i + 1, D ++ [c], hil, by simp; omega, by go_num, rfl, Lib.hid hw.out.symm, hno2, hb.alloc hb.size _⟩
          case measure => simp [intOf]; omega
        · have hlo : Lk.low b = b := low_id (by omega)
          rw [hlo] at hw
          by_cases hsm : 97 ≤ b.toNat ∧ b.toNat ≤ 122
          · obtain ⟨u1, u2⟩ := hsm
            rw [if_pos ((Lk.small_iff b).2 ⟨u1, u2⟩)] at hw
            have hone := fun w => run_onetext (c := b) (v := (b.toNat : Int)) rfl w
            have hcat : bs D ++ bs [b] = bs (D ++ [b]) := bs_append D [b]
            have hzc := bs_size [b]
            simp only [List.length_cons, List.length_nil] at hzc
            have u3 : 65 ≤ b.toNat := by omega
            have u4 : ¬ b.toNat ≤ 90 := by omega
            replace hw := Lib.hid hw
            clear hup hlo
            go_wp2
            go_roundw
            case rel => exact ⟨i + 1, D ++ [b], hil, by simp; omega, by go_num, rfl, Lib.hid hw.out.symm, hno2, hb.alloc hb.size _⟩
            case measure => simp [intOf]; omega
          · have hns : Lk.small b = false := by unfold Lk.small; exact decide_eq_false hsm
            rw [if_neg (by rw [hns]; decide), List.append_nil] at hw
            replace hw := Lib.hid hw
            have hcase : b.toNat < 65 ∨ (90 < b.toNat ∧ b.toNat < 97) ∨ 122 < b.toNat := by omega
            clear hup hlo hns hsm
            rcases hcase with u | ⟨u, u'⟩ | u
            all_goals
              go_wp2
              go_roundw
              case rel => exact ⟨i + 1, D, hil, by omega, by go_num, rfl, Lib.hid hw.out.symm, hno2, hb⟩
              case measure => simp [intOf]; omega
    · have hie : i = l.length := by omega
      have hall : ∀ b ∈ l, b ≠ 58 := by have := hno.out; rwa [List.take_of_length_le (by omega)] at this
      have hres : R = (l.getD 0 0 != 35) := by rw [hR.out]; unfold Lk.safe; rw [head_none hall]; simp
      clear hR hno hall hD
      cases l with
      | nil =>
        simp at hres
        subst hres
        have e0 : ((bs ([] : List UInt8)).toList == []) = true := by rw [bs_toList]; rfl
        go_wp2
        go_ret
        exact ⟨rfl, hb⟩
      | cons x r =>
        have hx0 := fun w => run_byte_at (S := x :: r) (i := 0) (v := 0) (by simp) rfl w
        simp only [List.getD_cons_zero, List.getElem_cons_zero] at hres hx0
        have e0 : ((bs (x :: r)).toList == []) = false := by rw [bs_toList]; rfl
        by_cases f0 : x = 35
        · have t0 : ((x.toNat : Int) == 35) = true := byte_eq (n := 35) (by omega) f0
          have t0' : ((x.toNat : Int) != 35) = false := by simp only [bne, t0]; rfl
          rw [f0] at hres
          simp only [bne_self_eq_false] at hres
          subst hres
          clear f0
          go_wp2
          go_ret
          exact ⟨rfl, hb⟩
        · have t0 : ((x.toNat : Int) == 35) = false := byte_ne (n := 35) (by omega) f0
          have t0' : ((x.toNat : Int) != 35) = true := by simp only [bne, t0]; rfl
          have f0' : (x != 35) = true := by simpa using f0
          rw [f0'] at hres
          subst hres
          clear f0 f0'
          go_wp2
          go_ret
          exact ⟨rfl, hb⟩
end Go.Proofs.Ytjkmhcolnidflaa
