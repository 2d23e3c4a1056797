/- Package runes and the document's own answer: one contract for each function that goes over a text's runes. -/
import Derived.Test.YtlpjpgcdcigihaaDoorRuFold
import Derived.Test.YtlpjpgcdcigihaaDoorBld
import Derived.Test.YtlpjpgcdcigihaaDoorMem
import Derived.Laws.Cover4
namespace Go.Proofs.YtlpjpgcdcigihaaDoor
open Go.RowKit

/-- runes as cells -/
def rcells (X : List Nat) : List Value := X.map fun x : Nat => .int .i32 (x : Int)
theorem rcells_one (l : List Nat) : ∀ u ∈ rcells l, u.oneCell' = true := by
  intro u hu; simp only [rcells, List.mem_map] at hu; obtain ⟨_, _, rfl⟩ := hu; rfl
theorem rcells_len (l : List Nat) : (rcells l).length = l.length := by simp [rcells]

/-- what 'next' hands over at a place of a text, and what is left behind it -/
theorem runes_next {l : List UInt8} {pos : Nat} (h : pos < l.length) {D : List Nat} (hD : D ++ Ru.runes (l.drop pos) = Ru.runes l) :
    ∃ x k : Nat, 1 ≤ k ∧ Ru.vr x ∧ Utf8.decode (bs l) pos = (x, k) ∧ (D ++ [x]) ++ Ru.runes (l.drop (pos + k)) = Ru.runes l := by
  have hd := decodeL_drop' l pos
  refine ⟨(Utf8.decode (bs l) pos).1, (Utf8.decode (bs l) pos).2, ?_, ?_, rfl, ?_⟩
  · rw [← hd]; exact Lib.decodeL_width _
  · rw [← hd]; exact Ru.decodeL_vr _
  · rw [← hD, Ru.runes_at h, List.append_assoc]; rfl
where decodeL_drop' (l : List UInt8) (pos : Nat) : Lib.decodeL (l.drop pos) = Utf8.decode (bs l) pos := by
        have := Lib.decodeL_drop (bs l) pos
        simpa [bs] using this

theorem run_next_rune {w : World} {k : Nat} {l : List UInt8} {pos x n : Nat} (hk : w.heap[k]? = some (.stringIter (bs l) pos)) (h : pos < l.length) (hd : Utf8.decode (bs l) pos = (x, n)) (ty : TypeId) :
    (Instr.next (.pointer (some ⟨k, 0, none⟩)) true ty).run Tryd.prog w = .ok (.tuple #[.bool true, .int .i64 pos, .int .i32 (x : Int)]) (w.iterAt k (bs l) (pos + n)) := by
  rw [Lib.run_next_any_at w k (bs l) pos ty hk (by rw [bs_size]; exact h), hd]
theorem run_next_done {w : World} {k : Nat} {l : List UInt8} {pos : Nat} (hk : w.heap[k]? = some (.stringIter (bs l) pos)) (h : ¬ pos < l.length) (ty : TypeId) :
    (Instr.next (.pointer (some ⟨k, 0, none⟩)) true ty).run Tryd.prog w = .ok (.tuple #[.bool false]) w :=
  Lib.run_next_end_at w k (bs l) pos ty hk (by rw [bs_size]; exact h)
theorem runes_done {l : List UInt8} {pos : Nat} (h : ¬ pos < l.length) {D : List Nat} (hD : D ++ Ru.runes (l.drop pos) = Ru.runes l) : D = Ru.runes l := by
  rw [List.drop_eq_nil_of_le (by omega), Ru.runes_nil, List.append_nil] at hD; exact hD
theorem runes_part {l : List UInt8} {pos : Nat} {D : List Nat} (hD : D ++ Ru.runes (l.drop pos) = Ru.runes l) : D.length ≤ l.length := by
  have h1 := congrArg List.length hD
  have h2 := Ru.runes_len l
  rw [List.length_append] at h1; omega
theorem runes_part_vr {l : List UInt8} {pos : Nat} {D : List Nat} (hD : D ++ Ru.runes (l.drop pos) = Ru.runes l) : ∀ x ∈ D, Ru.vr x := by
  intro x hx; refine Ru.runes_vr l x ?_; rw [← hD]; simp [hx]
/-- the iterator of a range that is made last -/
theorem iter_new (w : World) (l : List UInt8) (o : Obj) (ho : o = .stringIter (bs l) 0) : (w.alloc o).heap[w.heap.size]? = some (.stringIter (bs l) 0) := by
  subst ho; exact heap_alloc_new w _

theorem own_iterAt {w : World} {base : Nat} {e : TypeId} {size n : Nat} {v : Value} {xs : List Value} (h : w.ownsRow base e size v n xs) {k : Nat} (hk : k < base) (s : ByteArray) (pos : Nat) : (w.iterAt k s pos).ownsRow base e size v n xs := by
  refine ⟨h.1, ?_⟩
  rcases h.2 with hn | ⟨g, cap, cur, rfl, hbg, hgg, rest⟩
  · exact .inl hn
  · exact .inr ⟨g, cap, cur, rfl, hbg, (Lib.iterAt_other w k g s pos (by omega)).trans hgg, rest⟩

set_option maxHeartbeats 1000000 in
theorem count_any (l : List UInt8) (w : World) (hs : l.length ≤ 1000000000000) :
    Calls Tryd.prog 13 #[.string (bs l)] w fun e w' => e = .returned (.int .i64 (Ru.runes l).length) ∧ Below w.heap.size w w' := by
  go_enter Tryd.func13, Tryd.ntmps13
  go_wp2
  go_loopw [3] (fun n wr => ∃ (pos : Nat) (D : List Nat), Hid (wr.heap[w.heap.size]? = some (.stringIter (bs l) pos)) ∧ Hid (D ++ Ru.runes (l.drop pos) = Ru.runes l) ∧ n = .int .i64 D.length ∧ Below w.heap.size w wr)
    (fun _ wr => l.length - wr.iterPos w.heap.size)
  case atStart => exact ⟨0, [], Lib.hid (iter_new _ _ _ rfl), Lib.hid rfl, rfl, ext_alloc _ _⟩
  case round =>
    obtain ⟨pos, D, hit, hD, rfl, hb⟩ := hrel
    have hdl := runes_part hD.out
    by_cases hp : pos < l.length
    · obtain ⟨x, k, hk, hv, hd, hD2⟩ := runes_next hp hD.out
      have hnx := run_next_rune hit.out hp hd
      replace hD2 := Lib.hid hD2
      replace hd := Lib.hid hd
      have hit2 := Lib.hid (Lib.iterAt_heap wr w.heap.size (bs l) pos (pos + k) hit.out)
      have hb2 := Lib.below_iterAt hb (k := w.heap.size) (Nat.le_refl _) (bs l) (pos + k)
      have hpos : wr.iterPos w.heap.size = pos := by simp only [World.iterPos, hit.out]
      have hpos2 : (wr.iterAt w.heap.size (bs l) (pos + k)).iterPos w.heap.size = pos + k := by simp only [World.iterPos, hit2.out]
      replace hpos := Lib.hid hpos
      replace hpos2 := Lib.hid hpos2
      go_wp2
      go_roundw
      case rel => exact ⟨pos + k, D ++ [x], hit2, hD2, by simp, hb2⟩
      case measure => rw [hpos.out, hpos2.out]; omega
    · have hnx := run_next_done hit.out hp
      have hDe := runes_done hp hD.out
      clear hD
      subst hDe
      go_wp2
      go_ret
      exact ⟨rfl, hb⟩

/-- the first rune, the last one -/
def hdR (l : List UInt8) : Nat := (Ru.runes l).headD 0
def ltR (l : List UInt8) : Nat := (Ru.runes l).getLastD 0

set_option maxHeartbeats 1000000 in
theorem first_none (w : World) :
    Calls Tryd.prog 22 #[.string (bs [])] w fun e w' => e = .returned (.tuple #[.int .i32 0, .bool false]) ∧ Below w.heap.size w w' := by
  go_enter Tryd.func22, Tryd.ntmps22
  go_wp2
  go_loopw [] (fun wr => Hid (wr.heap[w.heap.size]? = some (.stringIter (bs []) 0)) ∧ Below w.heap.size w wr) (fun _ => 0)
  case atStart => exact ⟨Lib.hid (iter_new _ _ _ rfl), ext_alloc _ _⟩
  case round =>
    obtain ⟨hit, hb⟩ := hrel
    have hnx := run_next_done hit.out (Nat.lt_irrefl 0)
    go_wp2
    go_ret2
    exact ⟨rfl, hb⟩

set_option maxHeartbeats 1000000 in
theorem first_some (l : List UInt8) (hne : l ≠ []) (w : World) :
    Calls Tryd.prog 22 #[.string (bs l)] w fun e w' => e = .returned (.tuple #[.int .i32 (hdR l : Int), .bool true]) ∧ Below w.heap.size w w' := by
  have hp : 0 < l.length := List.length_pos_iff.2 hne
  obtain ⟨x, k, hk, hv, hd, hD2⟩ := runes_next (D := []) hp rfl
  have hx : hdR l = x := by unfold hdR; rw [← hD2]; rfl
  replace hx := Lib.hid hx
  replace hne := Lib.hid hne
  clear hD2
  go_enter Tryd.func22, Tryd.ntmps22
  go_wp2
  go_loopw [] (fun wr => Hid (wr.heap[w.heap.size]? = some (.stringIter (bs l) 0)) ∧ Below w.heap.size w wr) (fun _ => 0)
  case atStart => exact ⟨Lib.hid (iter_new _ _ _ rfl), ext_alloc _ _⟩
  case round =>
    obtain ⟨hit, hb⟩ := hrel
    have hnx := run_next_rune hit.out hp hd
    replace hd := Lib.hid hd
    go_wp2
    go_ret2
    exact ⟨by rw [hx.out]; rfl, Lib.below_iterAt hb (Nat.le_refl _) _ _⟩

/-- the tables of unicode/utf8, as they lie -/
abbrev Tabs (w : World) : Prop := Lib.Utf8Tabs 0 1 w

set_option maxHeartbeats 1000000 in
theorem last_none (w : World) :
    Calls Tryd.prog 23 #[.string (bs [])] w fun e w' => e = .returned (.tuple #[.int .i32 0, .bool false]) ∧ Below w.heap.size w w' := by
  have h0 : (bs []).toList = [] := bs_toList []
  go_enter Tryd.func23, Tryd.ntmps23
  go_wp2
  go_ret2
  exact ⟨rfl, Below.refl _ _⟩

set_option maxHeartbeats 1000000 in
theorem last_some (l : List UInt8) (hne : l ≠ []) (w : World) (hs : l.length ≤ 1000000000000) (hT : Tabs w) :
    Calls Tryd.prog 23 #[.string (bs l)] w fun e w' => e = .returned (.tuple #[.int .i32 (ltR l : Int), .bool true]) ∧ Below w.heap.size w w' := by
  have h0 : (bs l).toList.isEmpty = false := by rw [bs_toList]; simpa using hne
  have hx : ((Lib.decodeLastL (bs l).data.toList).1) = ltR l := by
    unfold ltR
    have := Ru.runes_last l hne
    rw [List.getLastD_eq_getLast?, this]
    simp [bs]
  replace hx := Lib.hid hx
  replace hne := Lib.hid hne
  replace hT := Lib.hid hT
  go_enter Tryd.func23, Tryd.ntmps23
  go_wp2_with (go_at_call 33; refine (Tryd.utf8_DecodeLastRuneInString (bs l) _ (by rw [bs_size]; omega) hT.out).mono ?_; rintro e w' ⟨rfl, hb⟩)
  go_ret2
  exact ⟨by rw [hx.out]; rfl, hb⟩

theorem runeEI : EI Tryd.prog 33 21 1 4 := EI.mk' Tryd.underlying33 (z := .int .i32 0) (by kernel_rfl) rfl (by omega)

set_option maxHeartbeats 1000000 in
theorem rrunes_any (l : List UInt8) (w : World) (hs : l.length ≤ 1000000000) :
    Calls Tryd.prog 15 #[.string (bs l)] w fun e w' => (∃ v, e = .returned v ∧ w'.ownsRow (w.heap.size + 1) 21 1 v (Ru.runes l).length (rcells (Ru.runes l))) ∧ Below w.heap.size w w' := by
  go_enter Tryd.func15, Tryd.ntmps15
  go_wp2
  go_loopw [3] (fun v wr => ∃ (pos : Nat) (D : List Nat), Hid (wr.heap[w.heap.size]? = some (.stringIter (bs l) pos)) ∧ Hid (D ++ Ru.runes (l.drop pos) = Ru.runes l) ∧ wr.ownsRow (w.heap.size + 1) 21 1 v D.length (rcells D) ∧ Below w.heap.size w wr)
    (fun _ wr => l.length - wr.iterPos w.heap.size)
  case atStart => exact ⟨0, [], Lib.hid (iter_new _ _ _ rfl), Lib.hid rfl, World.ownsRow_nil _ _ _ _, ext_alloc _ _⟩
  case round =>
    obtain ⟨pos, D, hit, hD, hown, hb⟩ := hrel
    have hdl := runes_part hD.out
    have hlt : w.heap.size < wr.heap.size := (Array.getElem?_eq_some_iff.1 hit.out).1
    by_cases hp : pos < l.length
    · obtain ⟨x, k, hk, hv, hd, hD2⟩ := runes_next hp hD.out
      have hnx := run_next_rune hit.out hp hd
      replace hD2 := Lib.hid hD2
      replace hd := Lib.hid hd
      have hit2 := Lib.hid (Lib.iterAt_heap wr w.heap.size (bs l) pos (pos + k) hit.out)
      have hb2 := Lib.below_iterAt hb (k := w.heap.size) (Nat.le_refl _) (bs l) (pos + k)
      have hpos : Hid (wr.iterPos w.heap.size = pos) := Lib.hid (by simp only [World.iterPos, hit.out])
      have hown2 := own_iterAt hown (k := w.heap.size) (by omega) (bs l) (pos + k)
      have hz2 : w.heap.size + 1 ≤ (wr.iterAt w.heap.size (bs l) (pos + k)).heap.size := by rw [Lib.iterAt_size]; omega
      go_wp2_with (at_builtin; refine wpList_app_new rfl (.tmp 11) (.tmp 13) rfl runeEI rfl hown2 rfl rfl rfl (by simp; rfl) (by omega) (by omega) hz2 ?_; intro v2 w2 hown3 hg hb3)
      have hit3 : Hid (w2.heap[w.heap.size]? = some (.stringIter (bs l) (pos + k))) := Lib.hid ((hg.out.block w.heap.size (by omega) (fun e => own_ne_lt hown2 (k := w.heap.size) (by omega) e.symm)).trans hit2.out)
      have hpos2 : Hid (w2.iterPos w.heap.size = pos + k) := Lib.hid (by simp only [World.iterPos, hit3.out])
      go_roundw
      case rel => exact ⟨pos + k, D ++ [x], hit3, hD2, by simpa [rcells] using hown3, hb2.trans (hb3.mono (by omega))⟩
      case measure => rw [hpos.out, hpos2.out]; omega
    · have hnx := run_next_done hit.out hp
      have hDe := runes_done hp hD.out
      clear hD
      subst hDe
      go_wp2
      go_ret
      exact ⟨⟨_, rfl, hown⟩, hb⟩
end Go.Proofs.YtlpjpgcdcigihaaDoor
