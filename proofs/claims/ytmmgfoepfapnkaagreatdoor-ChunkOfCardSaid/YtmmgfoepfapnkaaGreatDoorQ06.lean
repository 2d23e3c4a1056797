/- Contracts of package line: what endLength and lineFrom give back. Contracts of Split, Texts, Last, Join of package line. -/
import Derived.Test.YtmmgfoepfapnkaaGreatDoorQ02
import Derived.Deep.QuietTactic
import Derived.BigQuiet
import Derived.Handy
namespace Go.Proofs.YtmmgfoepfapnkaaGreatDoor
open Go.RowKit

theorem drop_at {l : List UInt8} {k : Nat} (h : k < l.length) : l.drop k = l[k] :: l.drop (k + 1) := List.drop_eq_getElem_cons h
theorem ln_byte_eq {b : UInt8} {n : Nat} (hn : n < 256) (h : b = UInt8.ofNat n) : ((b.toNat : Int) == (n : Int)) = true := by
  subst h; simp; omega
theorem ln_byte_ne {b : UInt8} {n : Nat} (hn : n < 256) (h : b ≠ UInt8.ofNat n) : ((b.toNat : Int) == (n : Int)) = false := by
  rw [beq_eq_false_iff_ne]; intro he; apply h
  have : b.toNat = n := by omega
  subst this; simp
/-- the cell of a byte of a row of bytes -/
theorem byte_cell {l : List UInt8} {w : World} {B : Nat} {A : Option Addr} (h : Row w B 1 A l.length (bcells l)) (hn : 0 < l.length) :
    ∃ b o, A = some ⟨b, o, none⟩ ∧ b < B ∧ ∀ k, (hk : k < l.length) → w.cell? ⟨b, o + k, none⟩ = some (.int .u8 (l[k].toNat : Int)) := by
  obtain ⟨b, o, e, hb, hc⟩ := h.at1 hn
  exact ⟨b, o, e, hb, fun k hk => by rw [hc k hk]; simp [bcells, bv]⟩

set_option maxHeartbeats 400000 in
theorem endLength_at (l : List UInt8) (A : Option Addr) (c : Nat) (w : World) :
    Calls Tryz.prog 93 #[.slice A l.length c, .int .i64 l.length] w fun e w' => e = .returned (.int .i64 0) ∧ w = w' := by
  go_enter Tryz.func93, Tryz.ntmps93
  go_wp2
  go_ret
  exact ⟨rfl, rfl⟩

set_option maxHeartbeats 400000 in
theorem endLength_in (l : List UInt8) (A : Option Addr) (c k : Nat) (w : World) (B : Nat) (h : Row w B 1 A l.length (bcells l)) (hk : k < l.length) (hl : l.length ≤ 1000000000000) :
    Calls Tryz.prog 93 #[.slice A l.length c, .int .i64 k] w fun e w' => e = .returned (.int .i64 (Ln.endLen (l.drop k) : Nat)) ∧ w = w' := by
  obtain ⟨b, o, rfl, hb, hc⟩ := byte_cell h (by omega)
  have h0 := hc k hk
  have hne : ((k : Int) == (l.length : Int)) = false := by rw [beq_eq_false_iff_ne]; omega
  by_cases h13 : l[k] = 13
  · have t13 : ((l[k].toNat : Int) == (13 : Int)) = true := ln_byte_eq (n := 13) (by omega) h13
    by_cases hlt : k + 1 < l.length
    · have h1 := hc (k + 1) hlt
      by_cases h10 : l[k + 1] = 10
      · have t10 : ((l[k + 1].toNat : Int) == (10 : Int)) = true := ln_byte_eq (n := 10) (by omega) h10
        have hfin := Lib.hid (show Ln.endLen (l.drop k) = 2 from by rw [drop_at hk, drop_at hlt, h13, h10]; rfl)
        clear hc h h13 h10
        go_enter Tryz.func93, Tryz.ntmps93
        go_wp2
        go_ret
        exact ⟨by rw [hfin.out]; rfl, rfl⟩
      · have t10 : ((l[k + 1].toNat : Int) == (10 : Int)) = false := ln_byte_ne (n := 10) (by omega) h10
        have hfin := Lib.hid (show Ln.endLen (l.drop k) = 1 from by rw [drop_at hk, drop_at hlt, h13]; exact Ln.endLen_cr _ h10)
        clear hc h h13 h10
        go_enter Tryz.func93, Tryz.ntmps93
        go_wp2
        go_ret
        exact ⟨by rw [hfin.out]; rfl, rfl⟩
    · have hfin := Lib.hid (show Ln.endLen (l.drop k) = 1 from by rw [drop_at hk, List.drop_of_length_le (by omega), h13]; rfl)
      clear hc h h13
      go_enter Tryz.func93, Tryz.ntmps93
      go_wp2
      go_ret
      exact ⟨by rw [hfin.out]; rfl, rfl⟩
  · have t13 : ((l[k].toNat : Int) == (13 : Int)) = false := ln_byte_ne (n := 13) (by omega) h13
    have hfin := Lib.hid (show Ln.endLen (l.drop k) = 1 from by rw [drop_at hk]; exact Ln.endLen_else _ h13)
    clear hc h h13
    go_enter Tryz.func93, Tryz.ntmps93
    go_wp2
    go_ret
    exact ⟨by rw [hfin.out]; rfl, rfl⟩

theorem endLength_any (l : List UInt8) (A : Option Addr) (c k : Nat) (w : World) (B : Nat) (h : Row w B 1 A l.length (bcells l)) (hk : k ≤ l.length) (hl : l.length ≤ 1000000000000) :
    Calls Tryz.prog 93 #[.slice A l.length c, .int .i64 k] w fun e w' => e = .returned (.int .i64 (Ln.endLen (l.drop k) : Nat)) ∧ w = w' := by
  rcases Nat.lt_or_eq_of_le hk with h1 | rfl
  · exact endLength_in l A c k w B h h1 hl
  · rw [List.drop_length]; exact endLength_at l A c w

/-- what a byte says to the two tests of a line's end -/
theorem end_tests {x : UInt8} (h : Ln.isEnd x = true) : ((x.toNat : Int) != (10 : Int)) = false ∨ ((x.toNat : Int) != (10 : Int)) = true ∧ ((x.toNat : Int) != (13 : Int)) = false := by
  simp only [Ln.isEnd, Bool.or_eq_true, beq_iff_eq] at h
  rcases h with rfl | rfl
  · exact .inl rfl
  · exact .inr ⟨rfl, rfl⟩
theorem noend_tests {x : UInt8} (h : ¬ Ln.isEnd x = true) : ((x.toNat : Int) != (10 : Int)) = true ∧ ((x.toNat : Int) != (13 : Int)) = true := by
  simp only [Ln.isEnd, Bool.or_eq_true, beq_iff_eq, not_or] at h
  have h1 := ln_byte_ne (n := 10) (by omega) h.1
  have h2 := ln_byte_ne (n := 13) (by omega) h.2
  exact ⟨by simpa using h1, by simpa using h2⟩
theorem lf_fin {l : List UInt8} {k j : Nat} (h : Ln.eol l k = j) : Ending.returned (.agg #[.int .i64 k, .int .i64 j, .int .i64 ((j : Int) + (Ln.endLen (l.drop j) : Nat))]) = .returned (.agg #[.int .i64 k, .int .i64 (Ln.eol l k : Nat), .int .i64 (Ln.nxt l k : Nat)]) := by
  unfold Ln.nxt; rw [h]; simp

theorem lf_fin_end {l : List UInt8} {k : Nat} (h : Ln.eol l k = l.length) : Ending.returned (.agg #[.int .i64 k, .int .i64 l.length, .int .i64 l.length]) = .returned (.agg #[.int .i64 k, .int .i64 (Ln.eol l k : Nat), .int .i64 (Ln.nxt l k : Nat)]) := by
  unfold Ln.nxt; rw [h]; simp [Ln.endLen]

set_option maxHeartbeats 400000 in
theorem lineFrom_any (l : List UInt8) (A : Option Addr) (c k : Nat) (w : World) (h : Row w w.heap.size 1 A l.length (bcells l)) (hk : k ≤ l.length) (hl : l.length ≤ 1000000000000) :
    Calls Tryz.prog 77 #[.slice A l.length c, .int .i64 k] w fun e w' =>
      e = .returned (.agg #[.int .i64 k, .int .i64 (Ln.eol l k : Nat), .int .i64 (Ln.nxt l k : Nat)]) ∧ Below w.heap.size w w' := by
  have hL0 := h.alloc (Nat.le_refl _) (.cells #[.int .i64 0, .int .i64 0, .int .i64 0] 112)
  have hL := Lib.hid hL0
  clear hL0
  go_enter Tryz.func77, Tryz.ntmps77
  go_wp2_with fail
  go_loop [5] (fun v => ∃ j : Nat, k ≤ j ∧ j ≤ l.length ∧ v = .int .i64 j ∧ Hid (Ln.eol l j = Ln.eol l k)) (fun v => l.length - (intOf v).toNat)
  case atStart => exact ⟨k, Nat.le_refl _, hk, rfl, Lib.hid rfl⟩
  case round =>
    obtain ⟨j, hkj, hj, rfl, hej⟩ := hrel
    have hjn : j + Ln.endLen (l.drop j) ≤ l.length := by have := Ln.endLen_le (l.drop j); rw [List.length_drop] at this; omega
    rcases Nat.lt_or_eq_of_le hj with hlt | rfl
    · obtain ⟨b, o, rfl, hb, hc⟩ := byte_cell h (by omega)
      have h0 := hc j hlt
      by_cases hEnd : Ln.isEnd l[j] = true
      · have hje := Lib.hid (show Ln.eol l k = j from by rw [← hej.out]; exact Ln.eol_end hlt hEnd)
        have h1 := end_tests hEnd
        clear hc hEnd h
        rcases h1 with h10 | ⟨h10, h13⟩
        all_goals
          go_wp2_with fail
          refine (endLength_any l _ c j _ w.heap.size hL.out (by omega) hl).mono ?_
          rintro e w' ⟨rfl, rfl⟩
          go_wp2
          go_returns
          exact ⟨lf_fin hje.out, by go_grown⟩
      · have hje := Lib.hid (show Ln.eol l (j + 1) = Ln.eol l k from by rw [← hej.out]; exact Ln.eol_step hlt (by simpa using hEnd))
        obtain ⟨h10, h13⟩ := noend_tests hEnd
        clear hc hEnd h
        go_wp2
        go_round
        case rel => exact ⟨j + 1, by omega, by omega, by go_num, hje⟩
        case measure => simp [intOf]; omega
    · have hje := Lib.hid (show Ln.eol l k = l.length from by rw [← hej.out]; exact Ln.eol_at l)
      clear h
      go_wp2_with fail
      refine (endLength_at l _ c _).mono ?_
      rintro e w' ⟨rfl, rfl⟩
      go_wp2
      go_returns
      exact ⟨lf_fin_end hje.out, by go_grown⟩
end Go.Proofs.YtmmgfoepfapnkaaGreatDoor

namespace Go.Proofs.YtmmgfoepfapnkaaGreatDoor
open Go.RowKit

/-- lines as cells -/
def lncells (l : List (Nat × Nat × Nat)) : List Value := l.flatMap fun x => [.int .i64 x.1, .int .i64 x.2.1, .int .i64 x.2.2]

theorem lineInfo : (Tryz.prog.info? 112).map (fun i => (i.zero, i.size, i.bytes)) = some (some (.agg #[.int .i64 0, .int .i64 0, .int .i64 0]), 3, 24) := by kernel_rfl
theorem lineEI : EI Tryz.prog 101 112 3 24 := EI.mk' Tryz.underlying101 lineInfo rfl (by omega)

set_option maxHeartbeats 400000 in
theorem split_any (l : List UInt8) (A : Option Addr) (c : Nat) (w : World) (h : Row w w.heap.size 1 A l.length (bcells l)) (hl : l.length ≤ 1000000000000) :
    Calls Tryz.prog 61 #[.slice A l.length c] w fun e w' =>
      ∃ v, e = .returned v ∧ w'.ownsRow w.heap.size 112 3 v (Ln.lines l 0).length (lncells (Ln.lines l 0)) ∧ Below w.heap.size w w' := by
  have hR := Lib.hid h
  clear h
  go_enter Tryz.func61, Tryz.ntmps61
  go_wp2_with fail
  go_loopw [3, 4] (fun v i wr => ∃ (k : Nat) (d : List (Nat × Nat × Nat)), k ≤ l.length ∧ i = .int .i64 k ∧ Hid (d ++ Ln.lines l k = Ln.lines l 0) ∧ d.length ≤ k ∧ wr.ownsRow w.heap.size 112 3 v d.length (lncells d) ∧ Below w.heap.size w wr)
    (fun _ i _ => l.length - (intOf i).toNat)
  case atStart => exact ⟨0, [], Nat.zero_le _, rfl, Lib.hid rfl, Nat.zero_le _, World.ownsRow_nil _ _ _ _, Below.refl _ _⟩
  case round =>
    obtain ⟨k, d, hk, rfl, hd, hdl, hown, hb⟩ := hrel
    rcases Nat.lt_or_eq_of_le hk with hlt | rfl
    · have hRr := Lib.hid ((hR.out.below hb).more hb.size)
      go_wp2_with fail
      refine (lineFrom_any l _ c k _ hRr.out hk hl).mono ?_
      rintro e w1 ⟨rfl, hb1⟩
      have hown1 := own_below hown hb1
      have hz := hb.size
      have hz1 := hb1.size
      go_wp2_with (at_builtin; refine wpList_app_new rfl (.tmp 13) (.tmp 15) rfl lineEI rfl (hown1.alloc _) rfl ?hg rfl ?hone ?hn ?hby ?hba ?_)
      case hg => simp
      case hone => exact ⟨rfl, rfl, rfl⟩
      case hn => omega
      case hby => omega
      case hba => simp; omega
      intro v2 w2 hown2 hgr2 hb2
      have hcell : w2.cell? ⟨w1.heap.size, 2, none⟩ = some (.int .i64 (Ln.nxt l k : Nat)) := (grown_cell hgr2.out (by simp) (own_ne hown1 (Nat.le_refl _))).trans (World.cell?_alloc_at _ _ _ _ rfl)
      have hn1 := Ln.lt_nxt hlt
      have hn2 := Ln.nxt_le hk
      have hd2 := Lib.hid (show (d ++ [(k, Ln.eol l k, Ln.nxt l k)]) ++ Ln.lines l (Ln.nxt l k) = Ln.lines l 0 from by rw [← hd.out, Ln.lines_step hlt]; simp)
      have hbz : Below w.heap.size w w2 := (hb.trans ((hb1.mono hz).trans ((Below.refl _ _).alloc (by omega) _))).trans hb2
      clear hb hb1 hb2 hgr2 hown hown1
      go_wp2
      go_roundw
      case rel => exact ⟨Ln.nxt l k, d ++ [(k, Ln.eol l k, Ln.nxt l k)], hn2, rfl, hd2, by simp; omega, by simpa [lncells] using hown2, hbz⟩
      case measure => simp [intOf]; omega
    · have hfin : d = Ln.lines l 0 := by rw [← hd.out, Ln.lines_end (by omega)]; simp
      subst hfin
      go_wp2
      go_returns
      exact ⟨_, rfl, hown, hb⟩

theorem sizeU8 (w : World) : (sizeOf (Tryz.prog.elem 31)).run Tryz.prog w = .ok 1 w := by kernel_rfl
theorem underB : Tryz.prog.underlying 31 = some (.slice (Tryz.prog.elem 31)) := by kernel_rfl

theorem textEI : EI Tryz.prog 39 9 1 16 := EI.mk' (z := .string ⟨#[]⟩) Tryz.underlying39 (by kernel_rfl) rfl (by omega)
theorem byteEI : EI Tryz.prog 31 5 1 1 := EI.mk' (z := .int .u8 0) Tryz.underlying31 (by kernel_rfl) rfl (by omega)
theorem byteZ : (Tryz.prog.info? 5).map (fun i => i.zero) = some (some (.int .u8 0)) := by kernel_rfl

set_option maxHeartbeats 400000 in
theorem texts_any (l : List UInt8) (A : Option Addr) (c : Nat) (w : World) (h : Row w w.heap.size 1 A l.length (bcells l)) (hlc : l.length ≤ c) (hl : l.length ≤ 1000000000000) :
    Calls Tryz.prog 67 #[.slice A l.length c] w fun e w' =>
      ∃ v, e = .returned v ∧ w'.ownsRow w.heap.size 9 1 v (Ln.texts l 0).length (scells (Ln.texts l 0)) ∧ Below w.heap.size w w' := by
  have hR := Lib.hid h
  clear h
  go_enter Tryz.func67, Tryz.ntmps67
  go_wp2_with fail
  go_loopw [3, 4] (fun v i wr => ∃ (k : Nat) (d : List (List UInt8)), k ≤ l.length ∧ i = .int .i64 k ∧ Hid (d ++ Ln.texts l k = Ln.texts l 0) ∧ d.length ≤ k ∧ wr.ownsRow w.heap.size 9 1 v d.length (scells d) ∧ Below w.heap.size w wr)
    (fun _ i _ => l.length - (intOf i).toNat)
  case atStart => exact ⟨0, [], Nat.zero_le _, rfl, Lib.hid rfl, Nat.zero_le _, World.ownsRow_nil _ _ _ _, Below.refl _ _⟩
  case round =>
    obtain ⟨k, d, hk, rfl, hd, hdl, hown, hb⟩ := hrel
    rcases Nat.lt_or_eq_of_le hk with hlt | rfl
    · have hRr := Lib.hid ((hR.out.below hb).more hb.size)
      have he1 := Ln.le_eol l k
      have he2 := Ln.eol_le hk
      have hsl := run_cut underB 1 sizeU8 A l.length c _ _ he1 (Nat.le_trans he2 hlc)
      go_wp2_with fail
      refine (lineFrom_any l _ c k _ hRr.out hk hl).mono ?_
      rintro e w1 ⟨rfl, hb1⟩
      have hown1 := own_below hown hb1
      have hz := hb.size
      have hz1 := hb1.size
      have hcv := run_text (c := c - k) ((((hRr.out.below hb1).more hb1.size).alloc (Nat.le_refl _) (.cells #[.int .i64 k, .int .i64 (Ln.eol l k), .int .i64 (Ln.nxt l k)] 112)).sub he1 he2 hlc) 31 5 9 Tryz.underlying31 Tryz.underlying5 Tryz.underlying9
      go_wp2_with (at_builtin; refine wpList_app_new rfl (.tmp 13) (.tmp 21) rfl textEI rfl (hown1.alloc _) rfl ?hg rfl ?hone ?hn ?hby ?hba ?_)
      case hg => simp
      case hone => rfl
      case hn => omega
      case hby => omega
      case hba => simp; omega
      intro v2 w2 hown2 hgr2 hb2
      have hcell : w2.cell? ⟨w1.heap.size, 2, none⟩ = some (.int .i64 (Ln.nxt l k : Nat)) := (grown_cell hgr2.out (by simp) (own_ne hown1 (Nat.le_refl _))).trans (World.cell?_alloc_at _ _ _ _ rfl)
      have hn1 := Ln.lt_nxt hlt
      have hn2 := Ln.nxt_le hk
      have hd2 := Lib.hid (show (d ++ [mid l k (Ln.eol l k)]) ++ Ln.texts l (Ln.nxt l k) = Ln.texts l 0 from by rw [← hd.out, Ln.texts_step hlt]; simp)
      have hbz : Below w.heap.size w w2 := (hb.trans ((hb1.mono hz).trans ((Below.refl _ _).alloc (by omega) _))).trans hb2
      clear hb hb1 hb2 hgr2 hown hown1 hcv hsl
      go_wp2
      go_roundw
      case rel => exact ⟨Ln.nxt l k, d ++ [mid l k (Ln.eol l k)], hn2, rfl, hd2, by simp; omega, by simpa [scells] using hown2, hbz⟩
      case measure => simp [intOf]; omega
    · have hfin : d = Ln.texts l 0 := by rw [← hd.out, Ln.texts_end (by omega)]; simp
      subst hfin
      go_wp2
      go_returns
      exact ⟨_, rfl, hown, hb⟩

theorem ln_text_cell {ls : List (List UInt8)} {w : World} {B : Nat} {A : Option Addr} (h : Row w B 1 A ls.length (scells ls)) (hn : 0 < ls.length) :
    ∃ b o, A = some ⟨b, o, none⟩ ∧ b < B ∧ ∀ k, (hk : k < ls.length) → w.cell? ⟨b, o + k, none⟩ = some (.string (bs ls[k])) := by
  obtain ⟨b, o, e, hb, hc⟩ := h.at1 hn
  exact ⟨b, o, e, hb, fun k hk => by rw [hc k hk]; simp [scells]⟩

set_option maxHeartbeats 400000 in
theorem join_any (ls : List (List UInt8)) (en : List UInt8) (A : Option Addr) (c : Nat) (w : World) (h : Row w w.heap.size 1 A ls.length (scells ls)) (hls : ls.length ≤ 1000000000000) (hl : (Ln.join ls en).length ≤ 1000000000000) :
    Calls Tryz.prog 158 #[.slice A ls.length c, .string (bs en)] w fun e w' =>
      ∃ v, e = .returned v ∧ w'.ownsRow w.heap.size 5 1 v (Ln.join ls en).length (bcells (Ln.join ls en)) ∧ Below w.heap.size w w' := by
  have hR := Lib.hid h
  clear h
  go_enter Tryz.func158, Tryz.ntmps158
  go_wp2_with fail
  go_loopw [5, 10] (fun v i wr => ∃ (k : Nat), k ≤ ls.length ∧ i = .int .i64 k ∧ wr.ownsRow w.heap.size 5 1 v (Ln.join (ls.take k) en).length (bcells (Ln.join (ls.take k) en)) ∧ Below w.heap.size w wr)
    (fun _ i _ => ls.length - (intOf i).toNat)
  case atStart => exact ⟨0, Nat.zero_le _, rfl, World.ownsRow_nil _ _ _ _, Below.refl _ _⟩
  case round =>
    obtain ⟨k, hk, rfl, hown, hb⟩ := hrel
    rcases Nat.lt_or_eq_of_le hk with hlt | rfl
    · obtain ⟨b, o, rfl, hbb, hc⟩ := ln_text_cell hR.out (by omega)
      have h0 : wr.cell? ⟨b, o + k, none⟩ = some (.string (bs ls[k])) := (hb.cell hbb).trans (hc k hlt)
      have hz := hb.size
      have hj := Lib.hid (Ln.join_take en hlt)
      have hjl := Ln.join_take_le ls (k + 1) en
      have hjl2 : (Ln.join (ls.take k) en).length + ls[k].length + en.length ≤ 1000000000000 := by
        have := congrArg List.length hj.out; simp at this; omega
      clear hc
      go_wp2_with (first | (at_builtin; refine wpList_app_text rfl (.tmp 14) (.tmp 15) rfl byteEI byteZ Tryz.underlying9 rfl hown rfl (by omega) hz ?_; intro v1 w1 hown1 hg1 hb1; have hz1 := hb1.size) | (at_builtin; refine wpList_app_text rfl (.tmp 17) (.tmp 18) rfl byteEI byteZ Tryz.underlying9 rfl hown1 rfl (by omega) (Nat.le_trans hz hz1) ?_; intro v2 w2 hown2 hg2 hb2))
      have hown3 : w2.ownsRow w.heap.size 5 1 v2 (Ln.join (ls.take (k + 1)) en).length (bcells (Ln.join (ls.take (k + 1)) en)) := by
        rw [hj.out]; simpa [Nat.add_assoc] using hown2
      have hbz := (hb.trans hb1).trans hb2
      clear hown hown1 hown2 hb hb1 hb2
      go_roundw
      case rel => exact ⟨k + 1, by omega, by go_num, hown3, hbz⟩
      case measure => simp [intOf]; omega
    · rw [List.take_length] at hown
      go_wp2
      go_returns
      exact ⟨_, rfl, hown, hb⟩
end Go.Proofs.YtmmgfoepfapnkaaGreatDoor
