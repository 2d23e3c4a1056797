/- EmphTells: runs are judged, and paired, as the document says, for any. What the program's Match does is a premise. -/
import Derived.Test.YtboeaofcioolnaaDoorEmKnown
import Derived.Test.YtboeaofcioolnaaDoorEmReal
import Derived.Test.YtboeaofcioolnaaDoorTapeT
import Derived.Test.YtboeaofcioolnaaDoorBit64
namespace Go.Proofs.YtboeaofcioolnaaDoor
open Go.RowKit

theorem acells_take (l : List Em.R) (k : Nat) (hk : k ≤ l.length) : (acells l).take (k * 4) = acells (l.take k) := by
  have e : acells l = acells (l.take k) ++ acells (l.drop k) := by unfold acells; rw [← List.flatMap_append, List.take_append_drop]
  rw [e]
  exact List.take_left' (by rw [acells_len, List.length_take]; omega)
theorem Row.pre {w : World} {B n : Nat} {A : Option Addr} {l : List Em.R} (h : Row w B 4 A n (acells l)) (k : Nat) (hk : k ≤ n) : Row w B 4 A k (acells (l.take k)) := by
  have hn : l.length = n := by have := h.1; rw [acells_len] at this; omega
  rw [← acells_take l k (by omega)]
  refine ⟨by rw [List.length_take, acells_len]; omega, fun h0 => ?_⟩
  obtain ⟨b, o, e, hb, hc⟩ := h.2 (by omega)
  refine ⟨b, o, e, hb, fun j u hu => hc j u ?_⟩
  rw [List.getElem?_take] at hu
  split at hu
  · exact hu
  · cases hu

set_option maxHeartbeats 8000000 in
set_option maxRecDepth 100000 in
theorem tells_any (hP : PMatch) (l : List UInt8) (at_ : Int) (ks : List UInt8) (A : Option Addr) (c : Nat) (rs : List Em.R) (A2 : Option Addr) (c2 : Nat) (xs : List Int) (A1 : Option Addr) (c1 : Nat) (w : World)
    (h : Row w w.heap.size 1 A ks.length (bcells ks)) (h2 : Row w w.heap.size 4 A2 rs.length (acells rs)) (hc2 : rs.length ≤ c2) (h1 : Row w w.heap.size 1 A1 xs.length (icells xs)) (hc1 : xs.length ≤ c1) (hl : l.length ≤ 500000000000) (hk : ks.length ≤ 9223372036854775807) (hr : rs.length ≤ 9223372036854775807) (hx : xs.length ≤ 9223372036854775807) (hTb : Tabs w) :
    Calls Tryd.prog 4 #[.string (bs l), .int .i64 at_, .slice A ks.length c, .slice A2 rs.length c2, .slice A1 xs.length c1] w fun e w' => e = .returned (.bool true) ∧ Below w.heap.size w w' := by
  have hT := tapeNew w xs A1 c1 h1 hc1 hx
  have hbA := ext_alloc w (.cells #[.slice A1 xs.length c1, .int .i64 0] 34)
  have hzA : (w.alloc (.cells #[.slice A1 xs.length c1, .int .i64 0] 34)).heap.size = w.heap.size + 1 := by simp
  have hm := fun w' h => words_any w' w.heap.size h 20 (by omega) 20 rfl
  obtain ⟨a63, h63', g63⟩ : ∃ m : Nat, bits .and .i64 at_ 63 = (m : Int) ∧ m ≤ 63 := ⟨(at_ % 64).toNat, by rw [i64_and63]; omega, by omega⟩
  have hR := Lib.hid h
  have hR2 := Lib.hid h2
  replace hbA := Lib.hid hbA
  replace hm := Lib.hid hm
  replace hT := Lib.hid hT
  replace hP := Lib.hid hP
  replace hTb := Lib.hid hTb
  clear h h1 h2
  go_enter Tryd.func4, Tryd.ntmps4
  go_wp2_with fail
  generalize w.alloc (.cells #[.slice A1 xs.length c1, .int .i64 0] 34) = wa at hT hbA hzA ⊢
  refine (hm.out wa hT.out).mono ?_
  rintro e w1 ⟨s, rfl, hs, _, hb1⟩
  have hb1' := Lib.hid (hbA.out.trans hb1.1)
  clear hb1 hbA hm hT
  have hRx : ∀ wz, Below w.heap.size w wz → Row wz wz.heap.size 1 A ks.length (bcells ks) := fun wz hz => hR.out.ext hz
  replace hRx := Lib.hid hRx
  have hcat : bs l ++ bs s = bs (l ++ s) := bs_append l s
  obtain ⟨T, hTT⟩ : ∃ T, T = l ++ s := ⟨_, rfl⟩
  have hTl : T.length = l.length + s.length := by rw [hTT, List.length_append]
  rw [← hTT] at hcat
  clear hTT
  have z0 := bs_size l
  have z1 := bs_size s
  go_wp2_with fail
  refine (kinds_any l at_ (by omega) _ (tabs_below hTb.out hb1'.out)).mono ?_
  rintro e w2 ⟨rfl, hb2⟩
  replace hb2 := Lib.hid (ext_trans hb1'.out hb2)
  go_wp2_with fail
  refine (kinds_any s _ (by omega) _ (tabs_below hTb.out hb2.out)).mono ?_
  rintro e w3 ⟨rfl, hb3⟩
  replace hb3 := Lib.hid (ext_trans hb2.out hb3)
  go_wp2_with fail
  refine (kinds_any T _ (by omega) _ (tabs_below hTb.out hb3.out)).mono ?_
  rintro e w4 ⟨rfl, hb4⟩
  replace hb4 := Lib.hid (ext_trans hb3.out hb4)
  go_wp2_with fail
  refine (runs_any ks A c _ (hRx.out _ hb4.out) hk).mono ?_
  rintro e w5 ⟨⟨v5, rfl, ho5⟩, hb5⟩
  have hll := runsOf_len ks
  obtain ⟨R, hRR⟩ : ∃ R, R = runsOf ks := ⟨_, rfl⟩
  rw [← hRR] at ho5 hll
  clear hRR
  obtain ⟨A5, c5, rfl, hc5⟩ := own_shape ho5
  replace hb5 := Lib.hid (ext_trans hb4.out hb5)
  replace ho5 := Lib.hid ho5
  go_wp2_with fail
  refine (matches_any hP.out R A5 c5 _ (Row.own ho5.out) (by omega)).mono ?_
  rintro e w6 ⟨rfl, hb6⟩
  replace hb6 := Lib.hid (ext_trans hb5.out hb6)
  have hR6 := Lib.hid (hR2.out.ext hb6.out)
  by_cases hrs : rs.length ≤ 30
  · have mn1 : min (rs.length : Int) 30 = (rs.length : Int) := by omega
    have mn2 : (if (30 : Int) < (rs.length : Int) then (30 : Int) else (rs.length : Int)) = (rs.length : Int) := by split <;> omega
    go_wp2_with fail
    refine (matches_any hP.out rs A2 c2 _ hR6.out (by omega)).mono ?_
    rintro e w7 ⟨rfl, hb7⟩
    replace hb7 := Lib.hid (ext_trans hb6.out hb7)
    go_wp2_with fail
    refine (known_any hP.out _ (tabs_below hTb.out hb7.out)).mono ?_
    rintro e w8 ⟨rfl, hb8⟩
    replace hb8 := Lib.hid (ext_trans hb7.out hb8)
    go_wp2_with fail
    go_ret
    exact ⟨rfl, hb8.out⟩
  · have hpre := hR6.out.pre 30 (by omega)
    have hl30 : (rs.take 30).length = 30 := by rw [List.length_take]; omega
    have q := matches_any hP.out (rs.take 30) A2 c2 w6 (by rw [hl30]; exact hpre) (by omega)
    rw [hl30] at q
    have mn1 : min (rs.length : Int) 30 = 30 := by omega
    have mn2 : (if (30 : Int) < (rs.length : Int) then (30 : Int) else (rs.length : Int)) = 30 := by split <;> omega
    go_wp2_with fail
    refine q.mono ?_
    rintro e w7 ⟨rfl, hb7⟩
    replace hb7 := Lib.hid (ext_trans hb6.out hb7)
    go_wp2_with fail
    refine (known_any hP.out _ (tabs_below hTb.out hb7.out)).mono ?_
    rintro e w8 ⟨rfl, hb8⟩
    replace hb8 := Lib.hid (ext_trans hb7.out hb8)
    go_wp2_with fail
    go_ret
    exact ⟨rfl, hb8.out⟩

theorem tells_small (hP : PMatch) (l : List UInt8) (at_ : Int) (ks : List UInt8) (A : Option Addr) (c : Nat) (rs : List Em.R) (A2 : Option Addr) (c2 : Nat) (xs : List Int) (A1 : Option Addr) (c1 : Nat) (w : World) (_hx : -9223372036854775808 ≤ at_ ∧ at_ ≤ 9223372036854775807)
    (h : Row w w.heap.size 1 A ks.length (bcells ks)) (_hc : ks.length ≤ c) (h2 : Row w w.heap.size 4 A2 rs.length (acells rs)) (hc2 : rs.length ≤ c2) (h1 : Row w w.heap.size 1 A1 xs.length (icells xs)) (hc1 : xs.length ≤ c1) (hTb : Tabs w) (hk : l.length + ks.length + rs.length + xs.length ≤ 1048576) :
    Calls Tryd.prog 4 #[.string (bs l), .int .i64 at_, .slice A ks.length c, .slice A2 rs.length c2, .slice A1 xs.length c1] w fun e w' => e = .returned (.bool true) ∧ Below w.heap.size w w' :=
  tells_any hP l at_ ks A c rs A2 c2 xs A1 c1 w h h2 hc2 h1 hc1 (by omega) (by omega) (by omega) (by omega) hTb
end Go.Proofs.YtboeaofcioolnaaDoor
