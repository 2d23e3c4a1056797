/- Contracts of Split, Texts, Last, Join of package line. -/
import Derived.Test.YtbddmnhmfmkbhaaLine
namespace Go.Proofs.Ytbddmnhmfmkbhaa
open Go.RowKit

/-- lines as cells -/
def lcells (l : List (Nat × Nat × Nat)) : List Value := l.flatMap fun x => [.int .i64 x.1, .int .i64 x.2.1, .int .i64 x.2.2]

theorem lineInfo : (Try.prog.info? 31).map (fun i => (i.zero, i.size, i.bytes)) = some (some (.agg #[.int .i64 0, .int .i64 0, .int .i64 0]), 3, 24) := by kernel_rfl
theorem lineEI : EI Try.prog 28 31 3 24 := EI.mk' Try.underlying28 lineInfo rfl (by omega)

set_option maxHeartbeats 400000 in
theorem split_any (l : List UInt8) (A : Option Addr) (c : Nat) (w : World) (h : Row w w.heap.size 1 A l.length (bcells l)) (hl : l.length ≤ 1000000000000) :
    Calls Try.prog 12 #[.slice A l.length c] w fun e w' =>
      ∃ v, e = .returned v ∧ w'.ownsRow w.heap.size 31 3 v (Ln.lines l 0).length (lcells (Ln.lines l 0)) ∧ Below w.heap.size w w' := by
  have hR := Lib.hid h
  clear h
  go_enter Try.func12, Try.ntmps12
  go_wp2_with fail
  go_loopw [3, 4] (fun v i wr => ∃ (k : Nat) (d : List (Nat × Nat × Nat)), k ≤ l.length ∧ i = .int .i64 k ∧ Hid (d ++ Ln.lines l k = Ln.lines l 0) ∧ d.length ≤ k ∧ wr.ownsRow w.heap.size 31 3 v d.length (lcells d) ∧ Below w.heap.size w wr)
    (fun _ i _ => l.length - (intOf i).toNat)
  case atStart => exact ⟨0, [], Nat.zero_le _, rfl, Lib.hid rfl, Nat.zero_le _, World.ownsRow_nil _ _ _ _, Below.refl _ _⟩
  case round =>
    obtain ⟨k, d, hk, rfl, hd, hdl, hown, hb⟩ := hrel
    rcases Nat.lt_or_eq_of_le hk with hlt | rfl
    · have hRr := Lib.hid ((hR.out.below hb).more hb.size)
      go_wp2_with fail
      refine (lineFrom_any l _ c k _ hRr.out hk hl).mono ?_
      rintro e w1 ⟨rfl, hb1⟩
      have hown1 := own_below hown hb1
      have hz := hb.size
      have hz1 := hb1.size
      go_wp2_with (at_builtin; refine wpList_app_new rfl (.tmp 13) (.tmp 15) rfl lineEI rfl (hown1.alloc _) rfl ?hg rfl ?hone ?hn ?hby ?hba ?_)
      case hg => simp
      case hone => exact ⟨rfl, rfl, rfl⟩
      case hn => omega
      case hby => omega
      case hba => simp; omega
      intro v2 w2 hown2 hgr2 hb2
      have hcell : w2.cell? ⟨w1.heap.size, 2, none⟩ = some (.int .i64 (Ln.nxt l k : Nat)) := (grown_cell hgr2.out (by simp) (own_ne hown1 (Nat.le_refl _))).trans (World.cell?_alloc_at _ _ _ _ rfl)
      have hn1 := Ln.lt_nxt hlt
      have hn2 := Ln.nxt_le hk
      have hd2 := Lib.hid (show (d ++ [(k, Ln.eol l k, Ln.nxt l k)]) ++ Ln.lines l (Ln.nxt l k) = Ln.lines l 0 from by rw [← hd.out, Ln.lines_step hlt]; simp)
      have hbz : Below w.heap.size w w2 := (hb.trans ((hb1.mono hz).trans ((Below.refl _ _).alloc (by omega) _))).trans hb2
      clear hb hb1 hb2 hgr2 hown hown1
      go_wp2
      go_roundw
      case rel => exact ⟨Ln.nxt l k, d ++ [(k, Ln.eol l k, Ln.nxt l k)], hn2, rfl, hd2, by simp; omega, by simpa [lcells] using hown2, hbz⟩
      case measure => simp [intOf]; omega
    · have hfin : d = Ln.lines l 0 := by rw [← hd.out, Ln.lines_end (by omega)]; simp
      subst hfin
      go_wp2
      go_returns
      exact ⟨_, rfl, hown, hb⟩

theorem sizeU8 (w : World) : (sizeOf (Try.prog.elem 22)).run Try.prog w = .ok 1 w := by kernel_rfl
theorem underB : Try.prog.underlying 22 = some (.slice (Try.prog.elem 22)) := by kernel_rfl

set_option maxHeartbeats 400000 in
theorem last_any (l : List UInt8) (A : Option Addr) (c : Nat) (w : World) (h : Row w w.heap.size 1 A l.length (bcells l)) (hlc : l.length ≤ c) (hl : l.length ≤ 1000000000000) :
    Calls Try.prog 15 #[.slice A l.length c] w fun e w' =>
      e = .returned (.string (bs (mid l (Ln.eol l 0) (Ln.nxt l 0)))) ∧ Below w.heap.size w w' := by
  have hR := Lib.hid h
  clear h
  have h1 := Ln.nxt_le (Nat.zero_le l.length)
  have h2 := Ln.le_nxt l 0
  have hsl := run_cut underB 1 sizeU8 A l.length c _ _ h2 (Nat.le_trans h1 hlc)
  go_enter Try.func15, Try.ntmps15
  go_wp2_with fail
  refine (lineFrom_any l _ c 0 _ hR.out (Nat.zero_le _) hl).mono ?_
  rintro e w1 ⟨rfl, hb1⟩
  have hz := hb1.size
  have hcv := run_text (c := c - Ln.eol l 0) ((((hR.out.below hb1).more hb1.size).alloc (Nat.le_refl _) (.cells #[.int .i64 0, .int .i64 (Ln.eol l 0), .int .i64 (Ln.nxt l 0)] 31)).sub h2 h1 hlc) 22 5 9 Try.underlying22 Try.underlying5 Try.underlying9
  go_wp2
  go_returns
  exact ⟨rfl, by go_grown⟩

theorem textEI : EI Try.prog 25 9 1 16 := EI.mk' (z := .string ⟨#[]⟩) Try.underlying25 (by kernel_rfl) rfl (by omega)
theorem byteEI : EI Try.prog 22 5 1 1 := EI.mk' (z := .int .u8 0) Try.underlying22 (by kernel_rfl) rfl (by omega)
theorem byteZ : (Try.prog.info? 5).map (fun i => i.zero) = some (some (.int .u8 0)) := by kernel_rfl

set_option maxHeartbeats 400000 in
theorem texts_any (l : List UInt8) (A : Option Addr) (c : Nat) (w : World) (h : Row w w.heap.size 1 A l.length (bcells l)) (hlc : l.length ≤ c) (hl : l.length ≤ 1000000000000) :
    Calls Try.prog 14 #[.slice A l.length c] w fun e w' =>
      ∃ v, e = .returned v ∧ w'.ownsRow w.heap.size 9 1 v (Ln.texts l 0).length (scells (Ln.texts l 0)) ∧ Below w.heap.size w w' := by
  have hR := Lib.hid h
  clear h
  go_enter Try.func14, Try.ntmps14
  go_wp2_with fail
  go_loopw [3, 4] (fun v i wr => ∃ (k : Nat) (d : List (List UInt8)), k ≤ l.length ∧ i = .int .i64 k ∧ Hid (d ++ Ln.texts l k = Ln.texts l 0) ∧ d.length ≤ k ∧ wr.ownsRow w.heap.size 9 1 v d.length (scells d) ∧ Below w.heap.size w wr)
    (fun _ i _ => l.length - (intOf i).toNat)
  case atStart => exact ⟨0, [], Nat.zero_le _, rfl, Lib.hid rfl, Nat.zero_le _, World.ownsRow_nil _ _ _ _, Below.refl _ _⟩
  case round =>
    obtain ⟨k, d, hk, rfl, hd, hdl, hown, hb⟩ := hrel
    rcases Nat.lt_or_eq_of_le hk with hlt | rfl
    · have hRr := Lib.hid ((hR.out.below hb).more hb.size)
      have he1 := Ln.le_eol l k
      have he2 := Ln.eol_le hk
      have hsl := run_cut underB 1 sizeU8 A l.length c _ _ he1 (Nat.le_trans he2 hlc)
      go_wp2_with fail
      refine (lineFrom_any l _ c k _ hRr.out hk hl).mono ?_
      rintro e w1 ⟨rfl, hb1⟩
      have hown1 := own_below hown hb1
      have hz := hb.size
      have hz1 := hb1.size
      have hcv := run_text (c := c - k) ((((hRr.out.below hb1).more hb1.size).alloc (Nat.le_refl _) (.cells #[.int .i64 k, .int .i64 (Ln.eol l k), .int .i64 (Ln.nxt l k)] 31)).sub he1 he2 hlc) 22 5 9 Try.underlying22 Try.underlying5 Try.underlying9
      go_wp2_with (at_builtin; refine wpList_app_new rfl (.tmp 13) (.tmp 21) rfl textEI rfl (hown1.alloc _) rfl ?hg rfl ?hone ?hn ?hby ?hba ?_)
      case hg => simp
      case hone => rfl
      case hn => omega
      case hby => omega
      case hba => simp; omega
      intro v2 w2 hown2 hgr2 hb2
      have hcell : w2.cell? ⟨w1.heap.size, 2, none⟩ = some (.int .i64 (Ln.nxt l k : Nat)) := (grown_cell hgr2.out (by simp) (own_ne hown1 (Nat.le_refl _))).trans (World.cell?_alloc_at _ _ _ _ rfl)
      have hn1 := Ln.lt_nxt hlt
      have hn2 := Ln.nxt_le hk
      have hd2 := Lib.hid (show (d ++ [mid l k (Ln.eol l k)]) ++ Ln.texts l (Ln.nxt l k) = Ln.texts l 0 from by rw [← hd.out, Ln.texts_step hlt]; simp)
      have hbz : Below w.heap.size w w2 := (hb.trans ((hb1.mono hz).trans ((Below.refl _ _).alloc (by omega) _))).trans hb2
      clear hb hb1 hb2 hgr2 hown hown1 hcv hsl
      go_wp2
      go_roundw
      case rel => exact ⟨Ln.nxt l k, d ++ [mid l k (Ln.eol l k)], hn2, rfl, hd2, by simp; omega, by simpa [scells] using hown2, hbz⟩
      case measure => simp [intOf]; omega
    · have hfin : d = Ln.texts l 0 := by rw [← hd.out, Ln.texts_end (by omega)]; simp
      subst hfin
      go_wp2
      go_returns
      exact ⟨_, rfl, hown, hb⟩

theorem text_cell {ls : List (List UInt8)} {w : World} {B : Nat} {A : Option Addr} (h : Row w B 1 A ls.length (scells ls)) (hn : 0 < ls.length) :
    ∃ b o, A = some ⟨b, o, none⟩ ∧ b < B ∧ ∀ k, (hk : k < ls.length) → w.cell? ⟨b, o + k, none⟩ = some (.string (bs ls[k])) := by
  obtain ⟨b, o, e, hb, hc⟩ := h.at1 hn
  exact ⟨b, o, e, hb, fun k hk => by rw [hc k hk]; simp [scells]⟩

set_option maxHeartbeats 400000 in
theorem join_any (ls : List (List UInt8)) (en : List UInt8) (A : Option Addr) (c : Nat) (w : World) (h : Row w w.heap.size 1 A ls.length (scells ls)) (hls : ls.length ≤ 1000000000000) (hl : (Ln.join ls en).length ≤ 1000000000000) :
    Calls Try.prog 10 #[.slice A ls.length c, .string (bs en)] w fun e w' =>
      ∃ v, e = .returned v ∧ w'.ownsRow w.heap.size 5 1 v (Ln.join ls en).length (bcells (Ln.join ls en)) ∧ Below w.heap.size w w' := by
  have hR := Lib.hid h
  clear h
  go_enter Try.func10, Try.ntmps10
  go_wp2_with fail
  go_loopw [5, 10] (fun v i wr => ∃ (k : Nat), k ≤ ls.length ∧ i = .int .i64 k ∧ wr.ownsRow w.heap.size 5 1 v (Ln.join (ls.take k) en).length (bcells (Ln.join (ls.take k) en)) ∧ Below w.heap.size w wr)
    (fun _ i _ => ls.length - (intOf i).toNat)
  case atStart => exact ⟨0, Nat.zero_le _, rfl, World.ownsRow_nil _ _ _ _, Below.refl _ _⟩
  case round =>
    obtain ⟨k, hk, rfl, hown, hb⟩ := hrel
    rcases Nat.lt_or_eq_of_le hk with hlt | rfl
    · obtain ⟨b, o, rfl, hbb, hc⟩ := text_cell hR.out (by omega)
      have h0 : wr.cell? ⟨b, o + k, none⟩ = some (.string (bs ls[k])) := (hb.cell hbb).trans (hc k hlt)
      have hz := hb.size
      have hj := Lib.hid (Ln.join_take en hlt)
      have hjl := Ln.join_take_le ls (k + 1) en
      have hjl2 : (Ln.join (ls.take k) en).length + ls[k].length + en.length ≤ 1000000000000 := by
        have := congrArg List.length hj.out; simp at this; omega
      clear hc
      go_wp2_with (first | (at_builtin; refine wpList_app_text rfl (.tmp 14) (.tmp 15) rfl byteEI byteZ Try.underlying9 rfl hown rfl (by omega) hz ?_; intro v1 w1 hown1 hg1 hb1; have hz1 := hb1.size) | (at_builtin; refine wpList_app_text rfl (.tmp 17) (.tmp 18) rfl byteEI byteZ Try.underlying9 rfl hown1 rfl (by omega) (Nat.le_trans hz hz1) ?_; intro v2 w2 hown2 hg2 hb2))
      have hown3 : w2.ownsRow w.heap.size 5 1 v2 (Ln.join (ls.take (k + 1)) en).length (bcells (Ln.join (ls.take (k + 1)) en)) := by
        rw [hj.out]; simpa [Nat.add_assoc] using hown2
      have hbz := (hb.trans hb1).trans hb2
      clear hown hown1 hown2 hb hb1 hb2
      go_roundw
      case rel => exact ⟨k + 1, by omega, by go_num, hown3, hbz⟩
      case measure => simp [intOf]; omega
    · rw [List.take_length] at hown
      go_wp2
      go_returns
      exact ⟨_, rfl, hown, hb⟩
end Go.Proofs.Ytbddmnhmfmkbhaa
