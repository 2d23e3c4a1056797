/- strings.Builder over this translation: its copy check, WriteByte, WriteString: the shelf's own contracts do not lie here (the check's last way is refused by this translator), so they are walked anew after them. strings.Join over this translation: the shelf's contract does not lie here (it leans on the builder's copy check), so it is walked anew after it. Package cols and the document's own answer: a text without its first columns. strings.Join of any texts. The library's Trim, Contains and Clone in my words; a fence as a value; a fresh fence's block. Go's library, where package leaf calls it, in my words: TrimRight at signs and at blanks, IndexByte. Package fence: the line that begins a fence. Package fence and the document's own answer: the line that ends a fence. strings.Builder over this translation: WriteRune. -/
import Derived.Shelf.Strings.BuilderK
import Derived.Test.YtmmgfoepfapnkaaGreatDoorQ17
import Derived.Test.YtmmgfoepfapnkaaGreatDoorQ02
import Derived.WalkKit
import Derived.Shelf.Strings.OnBuilder
import Derived.Test.YtmmgfoepfapnkaaGreatDoorQ08
import Derived.Deep.CutBlock
import Derived.Deep.DeepCutAuto
import Derived.Test.YtmmgfoepfapnkaaGreatDoorQ06
import Derived.Test.YtmmgfoepfapnkaaGreatDoorQ09
import Derived.Lib.IndexAny
import Derived.Laws.ResultCell
import Derived.Test.YtmmgfoepfapnkaaGreatDoorQ10
import Derived.Shelf.Utf8.AppendRune
import Derived.Test.YtmmgfoepfapnkaaGreatDoorRows
namespace Go.Proofs.YtmmgfoepfapnkaaGreatDoor
open Go.RowKit

theorem bldSize : (Tryz.prog.info? 196).map (·.size) = some 2 := by kernel_rfl
theorem bldLies : liesAt Tryz.prog Tryz.prog.depth 196 (2 / Tryz.prog.cellsOf 196) 0 196 1 = true := by kernel_rfl
theorem byteInfo : (Tryz.prog.info? 5).map (fun i => (i.zero, i.size, i.bytes)) = some (some (.int .u8 0), 1, 1) := by kernel_rfl

set_option maxHeartbeats 1000000 in
set_option maxRecDepth 100000 in
theorem check_used (b : Nat) (w : World) (h0 : w.cell? ⟨b, 0, none⟩ = some (.pointer (some ⟨b, 0, none⟩))) :
    Calls Tryz.prog 155 #[.pointer (some ⟨b, 0, none⟩)] w fun e w' => e = .returned (.tuple #[]) ∧ w' = w := by
  obtain ⟨j, hj, _⟩ := Option.map_eq_some_iff.1 bldSize
  go_enter Tryz.func155, Tryz.ntmps155
  go_wp2
  rw [Lib.run_neq_ptr_same w _ Tryz.underlying194 hj]
  go_wp2
  go_end0
  exact ⟨rfl, rfl⟩

set_option maxHeartbeats 1000000 in
set_option maxRecDepth 100000 in
theorem check_fresh (b : Nat) (w : World) (h0 : w.cell? ⟨b, 0, none⟩ = some (.pointer none)) (hsh : w.shape? b = some (196, 2)) (hfz : w.frozen? ⟨b, 0, none⟩ = false) :
    Calls Tryz.prog 155 #[.pointer (some ⟨b, 0, none⟩)] w fun e w' => e = .returned (.tuple #[]) ∧ w' = w.setCell ⟨b, 0, none⟩ (.pointer (some ⟨b, 0, none⟩)) := by
  obtain ⟨j, hj, hjs⟩ := Option.map_eq_some_iff.1 bldSize
  go_enter Tryz.func155, Tryz.ntmps155
  go_wp2
  rw [Lib.run_to_unsafe w ⟨b, 0, none⟩ Tryz.underlying194 Tryz.underlying240 hj (by rw [hjs]; decide) hsh (Nat.zero_lt_succ 1)]
  simp only [Result.andThen]
  rw [Oper.upon_value]
  go_wp2
  rw [run_callFunc_extern Tryz.func187 (by kernel_rfl) (by kernel_rfl) (by kernel_rfl) (e := Extern.AbiNoEscape.same) (by kernel_rfl)]
  rw [Lib.run_noEscape]
  simp only [Result.andThen]
  rw [Oper.upon_value]
  go_wp2
  rw [Lib.run_from_unsafe w ⟨b, 0, none⟩ Tryz.underlying240 Tryz.underlying194 hj hsh bldLies]
  simp only [Result.andThen]
  rw [Oper.upon_value]
  go_wp2
  go_end0
  exact ⟨rfl, rfl⟩

abbrev IsB (B b : Nat) (xs : List Value) (w : World) : Prop := Lib.IsBuilderF 196 5 B b xs w

theorem check_any (B b : Nat) (xs : List Value) (w : World) (h : IsB B b xs w) :
    Calls Tryz.prog 155 #[.pointer (some ⟨b, 0, none⟩)] w fun e w' => e = .returned (.tuple #[]) ∧ (Lib.BuilderAtF 196 5 B b (.pointer (some ⟨b, 0, none⟩)) xs w' ∧ Below B w w' ∧ Lib.OthersKept 5 (some b) w w') := by
  rcases h with h | h
  · refine (check_fresh b w h.cell0 h.shape h.frozen0).mono ?_
    rintro e w' ⟨rfl, rfl⟩
    exact ⟨rfl, h.used _, (Below.refl B w).setCell (p := ⟨b, 0, none⟩) h.1 _, (Lib.OthersKept.refl _ _ w).setCell ⟨b, 0, none⟩ rfl _⟩
  · refine (check_used b w h.cell0).mono ?_
    rintro e w' ⟨rfl, rfl⟩
    exact ⟨rfl, h, Below.refl B _, Lib.OthersKept.refl _ _ _⟩

set_option maxHeartbeats 2000000 in
set_option maxRecDepth 100000 in
theorem writeByte_any (B b : Nat) (xs : List Value) (c : Int) (w : World) (h : IsB B b xs w) (hlen : xs.length + 1 ≤ 140737488355328) (hBw : B ≤ w.heap.size) :
    Calls Tryz.prog 176 #[.pointer (some ⟨b, 0, none⟩), .int .u8 c] w fun e w' => e = .returned .nilIface ∧ (IsB B b (xs ++ [.int .u8 c]) w' ∧ Below B w w' ∧ Lib.OthersKept 5 (some b) w w') := by
  obtain ⟨i0, hi, hz0, hz1, hz2⟩ := info_parts byteInfo
  go_enter Tryz.func176, Tryz.ntmps176
  go_wp2_with (go_at_call 155; refine (check_any B b xs _ h).mono ?_)
  rintro e w1 ⟨rfl, h1, hb1, hk1⟩
  obtain ⟨hB, v, hbk, hown, hne⟩ := h1
  have c0 : w1.cell? ⟨b, 0, none⟩ = some (.pointer (some ⟨b, 0, none⟩)) := by rw [Lib.cell_of_heap hbk]; rfl
  have c1 : w1.cell? ⟨b, 1, none⟩ = some v := by rw [Lib.cell_of_heap hbk]; rfl
  go_wp2_with (at_builtin; refine wpList_append_ownF _ rfl _ _ 31 rfl B 5 i0 (.int .u8 0) 1 1 Tryz.underlying31 hi hz0 hz1 hz2 rfl (by decide) _ _ _ rfl (hown.alloc _) ⟨w1.heap.size, 0, none⟩ 1 1 [.int .u8 c] rfl rfl ?c1 ?c2 ?c3 ?c4 ?c5 ?_)
  case c1 =>
    intro j u hj
    match j, hj with
    | 0, hj => simp at hj; subst hj; simp [Addr.add]
  case c2 => intro u hu; simp at hu; subst hu; rfl
  case c3 => unfold maxLen; omega
  case c4 => omega
  case c5 => have := hb1.size; simp; omega
  intro v' w2 hown' hgrow _
  have hlt : b < w1.heap.size := by
    rcases Nat.lt_or_ge b w1.heap.size with h' | h'
    · exact h'
    · simp [Array.getElem?_eq_none h'] at hbk
  have hb2 : w2.heap[b]? = some (.cells #[.pointer (some ⟨b, 0, none⟩), v] 196 (0, 0)) := by
    rw [hgrow.block b (by simp; omega) (fun e => hne e.symm), Lib.alloc_old w1 _ b hlt]
    exact hbk
  have d0 : w2.cell? ⟨b, 0, none⟩ = some (.pointer (some ⟨b, 0, none⟩)) := by rw [Lib.cell_of_heap hb2]; rfl
  have d1 : w2.cell? ⟨b, 1, none⟩ = some v := by rw [Lib.cell_of_heap hb2]; rfl
  have f1 : w2.frozen? ⟨b, 1, none⟩ = false := Lib.frozen_of_heap hb2 1
  obtain ⟨g, cap, rfl⟩ : ∃ g cap, v' = .slice (some ⟨g, 0, none⟩) (xs.length + 1) cap := by
    rcases hown'.2 with ⟨_, h0⟩ | ⟨g, cap, cur, fz, hv, _⟩
    · omega
    · exact ⟨g, cap, hv⟩
  go_wp2
  go_ret
  refine ⟨rfl, Or.inr ?_, ?_, ((hk1.alloc _).grown hgrow (Lib.ownsRowF_kind (hown.alloc _))).setCell ⟨b, 1, none⟩ rfl _⟩
  · exact Lib.BuilderAtF.put (T := 196) (e := 5) hB hb2 (bs' := xs ++ [.int .u8 c]) (by simpa using hown') (by decide)
  · exact ((hb1.alloc (by have := hb1.size; omega) _).grown hgrow (by have := hb1.size; simp; omega) (fun k hk => (hown.lt k hk).1)).setCell (p := ⟨b, 1, none⟩) hB _

set_option maxHeartbeats 2000000 in
set_option maxRecDepth 100000 in
theorem writeString_any (B b : Nat) (xs : List Value) (l : List UInt8) (w : World) (h : IsB B b xs w) (hlen : xs.length + l.length ≤ 140737488355328) (hBw : B ≤ w.heap.size) :
    Calls Tryz.prog 177 #[.pointer (some ⟨b, 0, none⟩), .string (bs l)] w fun e w' => (∃ v, e = .returned v) ∧ (IsB B b (xs ++ bcells l) w' ∧ Below B w w' ∧ Lib.OthersKept 5 (some b) w w') := by
  obtain ⟨i0, hi, hz0, hz1, hz2⟩ := info_parts byteInfo
  have hsz := bs_size l
  go_enter Tryz.func177, Tryz.ntmps177
  go_wp2_with (go_at_call 155; refine (check_any B b xs _ h).mono ?_)
  rintro e w1 ⟨rfl, h1, hb1, hk1⟩
  obtain ⟨hB, v, hbk, hown, hne⟩ := h1
  have c0 : w1.cell? ⟨b, 0, none⟩ = some (.pointer (some ⟨b, 0, none⟩)) := by rw [Lib.cell_of_heap hbk]; rfl
  have c1 : w1.cell? ⟨b, 1, none⟩ = some v := by rw [Lib.cell_of_heap hbk]; rfl
  go_wp2_with (at_builtin; refine Lib.wpList_append_own_stringF _ rfl _ _ 31 9 rfl B 5 i0 Tryz.underlying31 Tryz.underlying9 hi hz0 hz1 hz2 _ _ _ rfl hown (bs l) rfl ?c3 ?c4 ?c5 ?_)
  case c3 => rw [hsz]; unfold maxLen; omega
  case c4 => rw [hsz]; omega
  case c5 => have := hb1.size; omega
  intro v' w2 hown' hgrow _
  have hlt : b < w1.heap.size := (Array.getElem?_eq_some_iff.1 hbk).1
  have hb2 : w2.heap[b]? = some (.cells #[.pointer (some ⟨b, 0, none⟩), v] 196 (0, 0)) := (hgrow.block b hlt (fun e => hne e.symm)).trans hbk
  have d0 : w2.cell? ⟨b, 0, none⟩ = some (.pointer (some ⟨b, 0, none⟩)) := by rw [Lib.cell_of_heap hb2]; rfl
  have d1 : w2.cell? ⟨b, 1, none⟩ = some v := by rw [Lib.cell_of_heap hb2]; rfl
  have f1 : w2.frozen? ⟨b, 1, none⟩ = false := Lib.frozen_of_heap hb2 1
  obtain ⟨ao, n', cap, rfl⟩ : ∃ ao n' cap, v' = .slice ao n' cap := by
    rcases hown'.2 with ⟨hv, _⟩ | ⟨g, cap, cur, fz, hv, _⟩
    all_goals exact ⟨_, _, _, hv⟩
  rw [strCells_bs] at hown'
  go_wp2
  go_ret2
  refine ⟨⟨_, rfl⟩, Or.inr ?_, ?_, (hk1.grown hgrow (Lib.ownsRowF_kind hown)).setCell ⟨b, 1, none⟩ rfl _⟩
  · exact Lib.BuilderAtF.put (T := 196) (e := 5) hB hb2 (bs' := xs ++ bcells l) (by simpa [bcells] using hown') (by decide)
  · exact (hb1.grown hgrow (by have := hb1.size; omega) (fun k hk => (hown.lt k hk).1)).setCell (p := ⟨b, 1, none⟩) hB _
end Go.Proofs.YtmmgfoepfapnkaaGreatDoor

namespace Go.Proofs.YtmmgfoepfapnkaaGreatDoor
open Go.RowKit

theorem byteSize : (Tryz.prog.info? 5).map (·.size) = some 1 := by kernel_rfl

set_option maxHeartbeats 2000000 in
set_option maxRecDepth 1000000 in
theorem grow_fresh (B b n : Nat) (w : World) (hB : B ≤ b) (hbk : w.heap[b]? = some (.cells #[.pointer (some ⟨b, 0, none⟩), .slice none 0 0] 196 (0, 0))) (hBw : B ≤ w.heap.size) (hn : n ≤ 281474976710656) :
    Calls Tryz.prog 197 #[.pointer (some ⟨b, 0, none⟩), .int .i64 n] w fun e w' => e = .returned (.tuple #[]) ∧ (Lib.BuilderAt 196 5 B b (.pointer (some ⟨b, 0, none⟩)) [] w' ∧ Below B w w') := by
  obtain ⟨cs, hrun, hle, hmax⟩ := Lib.run_makeNoZero (P := Tryz.prog) w.drew #[3] 31 5 Tryz.underlying31 n hn
  have hw : IntKind.i64.wrap (IntKind.i64.wrap 0 + (n : Int)) = n := by
    rw [IntKind.wrap_i64, IntKind.wrap_i64]
    omega
  have hcall : (callFunc 199 #[.int .i64 (IntKind.i64.wrap (IntKind.i64.wrap 0 + (n : Int)))]).run Tryz.prog w.drew = .ok (.value (.slice (some ⟨w.drew.heap.size, 0, none⟩) n cs.size)) (w.drew.drew.drew.alloc (.cells cs 5)) := by
    rw [hw, run_callFunc_extern Tryz.func199 (by kernel_rfl) (by kernel_rfl) (by kernel_rfl) (e := Extern.BytealgMakeNoZero.makeNoZero #[3] #[31]) (by kernel_rfl), hrun]
    rfl
  have hlt : b < w.heap.size := (Array.getElem?_eq_some_iff.1 hbk).1
  have c1 : w.drew.cell? ⟨b, 1, none⟩ = some (.slice none 0 0) := by
    have : w.drew.heap[b]? = _ := hbk
    rw [Lib.cell_of_heap this]; rfl
  have c2 : (w.alloc (.cells cs 5)).cell? ⟨b, 1, none⟩ = some (.slice none 0 0) := by
    have : (w.alloc (.cells cs 5)).heap[b]? = _ := (Lib.alloc_old w _ b hlt).trans hbk
    rw [Lib.cell_of_heap this]; rfl
  have f2 : (w.alloc (.cells cs 5)).frozen? ⟨b, 1, none⟩ = false := Lib.frozen_of_heap ((Lib.alloc_old w _ b hlt).trans hbk) 1
  have hcopy : ∀ W : World, (Builtin.copy_ #[31, 31] 3 #[.slice (some ⟨w.heap.size, 0, none⟩) 0 cs.size, .slice none 0 0]).run Tryz.prog W = .ok (goInt 0) W :=
    fun W => run_copy_none W 31 31 3 5 _ _ 0 cs.size 0 0 Tryz.underlying31 byteSize rfl
  clear hw
  go_enter Tryz.func197, Tryz.ntmps197
  go_wp2
  have hfin := Lib.grown_fresh (T := 196) (e := 5) (cs := cs) hB hbk hBw (hmax (by unfold maxLen; omega)) (by decide)
  rw [World.setCell_alloc_past _ b 1 _ hlt] at hfin
  go_region
  all_goals (go_wp2; go_end0; exact ⟨rfl, hfin⟩)

set_option maxHeartbeats 2000000 in
set_option maxRecDepth 1000000 in
theorem growB_fresh (B b n : Nat) (w : World) (hB : B ≤ b) (hbk : w.heap[b]? = some (.cells #[.pointer none, .slice none 0 0] 196 (0, 0))) (hBw : B ≤ w.heap.size) (hn : n ≤ 281474976710656) :
    Calls Tryz.prog 189 #[.pointer (some ⟨b, 0, none⟩), .int .i64 n] w fun e w' => e = .returned (.tuple #[]) ∧ (Lib.BuilderAt 196 5 B b (.pointer (some ⟨b, 0, none⟩)) [] w' ∧ Below B w w') := by
  have hbk1 : (w.setCell ⟨b, 0, none⟩ (.pointer (some ⟨b, 0, none⟩))).heap[b]? = some (.cells #[.pointer (some ⟨b, 0, none⟩), .slice none 0 0] 196 (0, 0)) := by
    simp [World.setCell, Array.getElem?_modify, hbk]
  have c1 : (w.setCell ⟨b, 0, none⟩ (.pointer (some ⟨b, 0, none⟩))).cell? ⟨b, 1, none⟩ = some (.slice none 0 0) := by rw [Lib.cell_of_heap hbk1]; rfl
  have hb1 : Below B w (w.setCell ⟨b, 0, none⟩ (.pointer (some ⟨b, 0, none⟩))) := (Below.refl B w).setCell (p := ⟨b, 0, none⟩) hB _
  go_enter Tryz.func189, Tryz.ntmps189
  have hU : Lib.BuilderAt 196 5 B b (.pointer (some ⟨b, 0, none⟩)) [] (w.setCell ⟨b, 0, none⟩ (.pointer (some ⟨b, 0, none⟩))) := ⟨hB, .slice none 0 0, hbk1, World.ownsRow_nil _ _ _ _, by simp [Value.ownBlock]⟩
  have c1' : (w.setCell ⟨b, 0, none⟩ (.pointer (some ⟨b, 0, none⟩))).drew.cell? ⟨b, 1, none⟩ = some (.slice none 0 0) := c1
  go_wp2_with (go_at_call 155; refine (check_fresh b w (by rw [Lib.cell_of_heap hbk]; rfl) (by simp [World.shape?, hbk]) (Lib.frozen_of_heap hbk 0)).mono ?_; rintro e w' ⟨rfl, rfl⟩)
  go_region
  all_goals go_wp2_with (go_at_call 197; refine (grow_fresh B b n (w.setCell ⟨b, 0, none⟩ (.pointer (some ⟨b, 0, none⟩))).drew hB hbk1 (by simpa [World.setCell, World.drew, -World.drew_eq] using hBw) hn).mono ?_; rintro e w' ⟨rfl, h1, h2⟩)
  all_goals first
    | (go_end0; exact ⟨rfl, h1, hb1.drew.trans h2⟩)
    | (go_end0; exact ⟨rfl, hU.drew, hb1.drew⟩)
end Go.Proofs.YtmmgfoepfapnkaaGreatDoor

namespace Go.Proofs.YtmmgfoepfapnkaaGreatDoor
open Go.RowKit

theorem cl_bcells_append (a b : List UInt8) : bcells (a ++ b) = bcells a ++ bcells b := by simp [bcells]
theorem ext_allocs (w : World) (o : Obj) : Below w.heap.size w (w.alloc o) := (Below.refl _ w).alloc (Nat.le_refl _) _
theorem cl_fresh_bld (w : World) : IsB w.heap.size w.heap.size (bcells []) (w.alloc (.cells #[.pointer none, .slice none 0 0] 196)) :=
  Lib.IsBuilderF.of (Lib.fresh_isBuilder 196 5 w)
theorem cl_bld_string (B b : Nat) (l : List UInt8) (w : World) (h : IsB B b (bcells l) w) (hBw : B ≤ w.heap.size) :
    Calls Tryz.prog 122 #[.pointer (some ⟨b, 0, none⟩)] w fun e w' => e = .returned (.string (bs l)) ∧ Below B w w' :=
  (Tryz.Builder_String_any_k B b l w h hBw).mono fun _ _ ⟨he, _, hb, _⟩ => ⟨he, hb⟩

theorem bcells_blank (j : Nat) : bcells (List.replicate j 32) ++ [.int .u8 32] = bcells (List.replicate (j + 1) 32) := by
  rw [List.replicate_succ', cl_bcells_append]; rfl

set_option maxHeartbeats 4000000 in
set_option maxRecDepth 100000 in
theorem strip_any (l : List UInt8) (n : Int) (w : World) (hl : l.length + 3 ≤ 140737488355328) :
    Calls Tryz.prog 148 #[.string (bs l), .int .i64 n] w fun e w' => e = .returned (.string (bs (Cl.strip n l))) ∧ Below w.heap.size w w' := by
  obtain ⟨N, hN, hmx, hls⟩ : ∃ N : Nat, n.toNat = N ∧ max n 0 = (N : Int) ∧ Cl.lead n l 0 = Cl.lead (N : Int) l 0 := by
    refine ⟨n.toNat, rfl, by omega, ?_⟩
    by_cases h : n ≤ 0
    · rw [Cl.lead_neg l h, Cl.lead_neg l (by omega)]
    · rw [Int.toNat_of_nonneg (by omega)]
  have hle := Cl.lead_le (N : Int) l 0
  have hpa := Cl.lead_past (N : Int) l 0 (by omega)
  have hfs := Lib.hid (fun j => @strip_parts n l j)
  rw [hls, hN] at hfs
  obtain ⟨C, K, hCK⟩ : ∃ C K, Cl.lead (N : Int) l 0 = (C, K) := ⟨_, _, rfl⟩
  have hlead := fun w => lead_any l (N : Int) w (by omega)
  rw [hCK] at hle hpa hfs hlead
  simp only at hle hpa hfs hlead
  have hsl := run_from (S := l) (i := K) (by omega)
  clear hls hCK
  go_enter Tryz.func148, Tryz.ntmps148
  go_wp2_with (go_at_call 175; refine (hlead _).mono ?_; rintro e w' ⟨rfl, rfl⟩)
  go_loopw [5] (fun v wr => ∃ c j : Nat, c + j = C ∧ j ≤ C - N ∧ v = .int .i64 c ∧ IsB w.heap.size w.heap.size (bcells (List.replicate j 32)) wr ∧ Below w.heap.size w wr) (fun v _ => (intOf v).toNat)
  case atStart => exact ⟨C, 0, rfl, by omega, rfl, cl_fresh_bld w, ext_allocs _ _⟩
  case round =>
    obtain ⟨c, j, hcj, hjN, rfl, hI, hb⟩ := hrel
    have hz := hb.size
    have hrl : (bcells (List.replicate j 32)).length = j := by simp [bcells]
    by_cases hgo : N < c
    · have hn := fun wz (h : IsB w.heap.size w.heap.size (bcells (List.replicate j 32) ++ [.int .u8 32]) wz) => (by rw [← bcells_blank]; exact h : IsB w.heap.size w.heap.size (bcells (List.replicate (j + 1) 32)) wz)
      replace hn := Lib.hid hn
      go_wp2_with (go_at_call 176; refine (writeByte_any w.heap.size w.heap.size _ 32 _ hI (by omega) hz).mono ?_; rintro e w2 ⟨rfl, h1, b1, k1⟩)
      go_roundw
      case rel => exact ⟨c - 1, j + 1, by omega, by omega, by go_num, hn.out _ h1, hb.trans b1⟩
      case measure => simp [intOf]; omega
    · have hj : j = C - N := by omega
      replace hfs := Lib.hid (hfs.out j hj)
      have hfin := fun wz (h : IsB w.heap.size w.heap.size (bcells (List.replicate j 32) ++ bcells (l.drop K)) wz) => (by rw [← hfs.out, cl_bcells_append]; exact h : IsB w.heap.size w.heap.size (bcells (Cl.strip n l)) wz)
      replace hfin := Lib.hid hfin
      have hdl : (l.drop K).length = l.length - K := List.length_drop ..
      go_wp2_with (first | (go_at_call 177; refine (writeString_any w.heap.size w.heap.size _ (l.drop K) _ hI (by omega) hz).mono ?_; rintro e w2 ⟨⟨v, rfl⟩, h1, b1, k1⟩; replace h1 := Lib.hid (hfin.out _ h1); have hz2 := Nat.le_trans hz b1.size) | (go_at_call 122; refine (cl_bld_string w.heap.size w.heap.size _ _ h1.out (by omega)).mono ?_; rintro e w3 ⟨rfl, b2⟩))
      go_ret
      exact ⟨rfl, (hb.trans b1).trans b2⟩

end Go.Proofs.YtmmgfoepfapnkaaGreatDoor

namespace Go.Proofs.YtmmgfoepfapnkaaGreatDoor
open Go.RowKit

theorem sjoin_none (A : Option Addr) (c : Nat) (sep : List UInt8) (w : World) :
    Calls Tryz.prog 157 #[.slice A 0 c, .string (bs sep)] w fun e w' => e = .returned (.string ⟨#[]⟩) ∧ w' = w := by
  go_enter Tryz.func157, Tryz.ntmps157
  go_wp2
  go_ret
  exact ⟨rfl, rfl⟩
theorem sjoin_one (b o c : Nat) (x sep : List UInt8) (w : World) (hc : w.cell? ⟨b, o, none⟩ = some (.string (bs x))) :
    Calls Tryz.prog 157 #[.slice (some ⟨b, o, none⟩) 1 c, .string (bs sep)] w fun e w' => e = .returned (.string (bs x)) ∧ w' = w := by
  go_enter Tryz.func157, Tryz.ntmps157
  go_wp2
  go_ret
  exact ⟨rfl, rfl⟩

set_option maxHeartbeats 4000000 in
set_option maxRecDepth 100000 in
theorem sjoin_many (bk o c : Nat) (xs : List (List UInt8)) (sep : List UInt8) (w : World)
    (hcells : ∀ (j : Nat) (h : j < xs.length), w.cell? ⟨bk, o + j, none⟩ = some (.string (bs xs[j])))
    (hbk : bk < w.heap.size) (h2 : 2 ≤ xs.length) (hN : xs.length ≤ 140737488355328) (hcap : xs.length ≤ c) (hsep : 0 < sep.length)
    (hlen : (Lib.join xs sep).length ≤ 140737488355328) :
    Calls Tryz.prog 157 #[.slice (some ⟨bk, o, none⟩) xs.length c, .string (bs sep)] w fun e w' => e = .returned (.string (bs (Lib.join xs sep))) ∧ Below w.heap.size w w' := by
  have HC := Lib.hid hcells
  clear hcells
  obtain ⟨x0, r, hxs⟩ : ∃ x0 r, xs = x0 :: r := by
    cases xs with
    | nil => simp at h2
    | cons a t => exact ⟨a, t, rfl⟩
  have hjl : sep.length * (xs.length - 1) + Lib.lens xs ≤ 140737488355328 := by
    have := Lib.join_length x0 r sep
    rw [hxs] at hlen ⊢
    rw [this] at hlen
    rw [List.length_cons, Nat.add_sub_cancel]
    exact hlen
  have hmul : sep.length * (xs.length - 1) ≤ 140737488355328 := by omega
  obtain ⟨S, hS⟩ : ∃ S, sep.length = S := ⟨_, rfl⟩
  rw [hS] at hjl hmul hsep
  have hbsz : (bs sep).size = S := by rw [bs_size]; exact hS
  generalize hM : S * (xs.length - 1) = M at hjl hmul
  have hcast : ((xs.length : Int) - 1) = ((xs.length - 1 : Nat) : Int) := by omega
  have hlt : S < 9223372036854775807 / (xs.length - 1) := by
    have : S + 1 ≤ 9223372036854775807 / (xs.length - 1) := by
      rw [Nat.le_div_iff_mul_le (by omega), Nat.add_mul, hM]
      omega
    omega
  have hdv : ¬ (9223372036854775807 / ((xs.length : Int) - 1) ≤ (S : Int)) := by
    have e : (9223372036854775807 : Int) / ((xs.length - 1 : Nat) : Int) = ((9223372036854775807 / (xs.length - 1) : Nat) : Int) := IntWalk.up_div (x := 9223372036854775807) rfl rfl
    rw [hcast, e]
    generalize 9223372036854775807 / (xs.length - 1) = q at hlt
    omega
  have hprod : wrap64 ((S : Int) * ((xs.length : Int) - 1)) = (M : Int) := by
    have e : (S : Int) * ((xs.length - 1 : Nat) : Int) = ((S * (xs.length - 1) : Nat) : Int) := IntWalk.up_mul rfl rfl
    rw [hcast, e, hM]
    exact IntWalk.wrap64_in _ ⟨by omega, by omega⟩
  clear hlt hcast
  obtain ⟨n, hn⟩ : ∃ n, xs.length = n := ⟨_, rfl⟩
  rw [hn] at h2 hN hcap hdv hprod ⊢
  have hne0 : ((n : Int) == 0) = false := beq_eq_false_iff_ne.2 (by omega)
  have hne1 : ((n : Int) == 1) = false := beq_eq_false_iff_ne.2 (by omega)
  have Hn := Lib.hid hn
  have Hxs := Lib.hid hxs
  have Hlen := Lib.hid hlen
  have hm0 := Lib.hid hM
  clear hxs hlen hM hn hS
  go_enter Tryz.func157, Tryz.ntmps157
  go_wp2_with fail
  all_goals (
    go_loop [5, 41] (fun m i => ∃ k : Nat, k ≤ n ∧ i = .int .i64 k ∧ m = .int .i64 ((M + Lib.lens (xs.take k) : Nat) : Int)) (fun _ i => n - (intOf i).toNat)
    case atStart => exact ⟨0, Nat.zero_le _, rfl, by simp [Lib.lens]⟩
    case round =>
      obtain ⟨k, hk, rfl, rfl⟩ := hrel
      by_cases hkn : k < n
      · have hkx : k < xs.length := by rw [Hn.out]; exact hkn
        have hc := HC.out k hkx
        have hstep := Lib.lens_take_succ xs k xs[k] (List.getElem?_eq_getElem hkx)
        have hbound : Lib.lens (xs.take (k + 1)) ≤ Lib.lens xs := Lib.lens_take_le _ _
        have hxl := bs_size xs[k]
        generalize hA1 : Lib.lens (xs.take (k + 1)) = A1 at hstep hbound
        generalize Lib.lens (xs.take k) = A0 at hstep
        have HA1 := Lib.hid hA1
        clear hA1
        go_wp2
        exact ⟨⟨k + 1, by omega, by go_num, by rw [HA1.out]; refine congrArg _ ?_; omega⟩, by simp [intOf]; omega⟩
      · have hke : k = n := by omega
        subst hke
        have hall : xs.take k = xs := List.take_of_length_le (by rw [Hn.out]; exact Nat.le_refl _)
        rw [hall]
        generalize hT : Lib.lens xs = T at hjl
        have HT := Lib.hid hT
        clear hT hall
        go_wp2_with fail
        have hMT : ((M : Int) + (T : Int)) = ((M + T : Nat) : Int) := by omega
        rw [hMT]
        refine (growB_fresh w.heap.size w.heap.size (M + T) _ (Nat.le_refl _) (heap_alloc_new w _) (by simp) (by omega)).mono ?_
        rintro e w1 ⟨rfl, h1, hb1⟩
        have hb1' : Below w.heap.size w w1 := ((Below.refl w.heap.size w).alloc (Nat.le_refl _) _).trans hb1
        have hx0 : ∃ h : 0 < xs.length, xs[0] = x0 := ⟨by rw [Hn.out]; omega, by simp [Hxs.out]⟩
        have hc0 : w1.cell? ⟨bk, o, none⟩ = some (.string (bs x0)) := by
          obtain ⟨h0, e0⟩ := hx0
          rw [hb1'.cell (p := ⟨bk, o, none⟩) hbk, ← e0]
          exact HC.out 0 h0
        have H1 := Lib.hid (Lib.IsBuilderF.of (Or.inr h1) : IsB w.heap.size w.heap.size [] w1)
        have Hb1 := Lib.hid hb1'
        have hBw1 : w.heap.size ≤ w1.heap.size := hb1'.size
        clear h1 hb1 hb1' hMT
        have hwhole : Lib.join xs sep = x0 ++ Lib.joinTail sep r := by rw [Hxs.out, Lib.join_cons]
        have hCle : ∀ k, (x0 ++ Lib.joinTail sep (r.take k)).length ≤ 140737488355328 := fun k => by
          have h1 := Hlen.out
          rw [hwhole, List.length_append] at h1
          have h2 := Lib.joinTail_take_le sep r k
          rw [List.length_append]
          omega
        have HCle := Lib.hid hCle
        have Hwhole := Lib.hid hwhole
        clear hCle hwhole
        go_wp2_with fail
        refine (writeString_any w.heap.size w.heap.size [] x0 w1 H1.out (by have := HCle.out 0; simp [Lib.joinTail] at this ⊢; omega) hBw1).mono ?_
        rintro e w2 ⟨⟨_, rfl⟩, h2', hb2, _⟩
        have hstart : ([] : List Value) ++ bcells x0 = bcells (x0 ++ Lib.joinTail sep (r.take 0)) := by
          simp [Lib.joinTail]
        rw [hstart] at h2'
        have H2 := Lib.hid h2'
        have Hb2 := Lib.hid (Hb1.out.trans hb2)
        clear h2' hb2 hstart
        have hrl : r.length = k - 1 := by rw [← Hn.out, Hxs.out]; simp
        obtain ⟨m, hm⟩ : ∃ m, r.length = m := ⟨_, rfl⟩
        rw [hm] at hrl
        have Hm := Lib.hid hm
        clear hm
        go_wp2_with fail
        go_loopw [65] (fun i wr => ∃ j : Nat, j ≤ m ∧ i = .int .i64 j ∧ Hid (IsB w.heap.size w.heap.size (bcells (x0 ++ Lib.joinTail sep (r.take j))) wr) ∧ Hid (Below w.heap.size w wr)) (fun i _ => m - (intOf i).toNat)
        case atStart => exact ⟨0, Nat.zero_le _, rfl, H2, Hb2⟩
        case round =>
          obtain ⟨j, hj', rfl, HB, HW⟩ := hrel
          by_cases hjr : j < m
          · have hjl2 : j < r.length := by rw [Hm.out]; exact hjr
            have hxy : ∃ h : j + 1 < xs.length, xs[j + 1] = r[j] := ⟨by rw [Hn.out]; omega, by simp [Hxs.out]⟩
            have hcy : wr.cell? ⟨bk, o + 1 + j, none⟩ = some (.string (bs r[j])) := by
              obtain ⟨h0, e0⟩ := hxy
              rw [HW.out.cell (p := ⟨bk, o + 1 + j, none⟩) hbk, show o + 1 + j = o + (j + 1) by omega, ← e0]
              exact HC.out (j + 1) h0
            have hBw : w.heap.size ≤ wr.heap.size := HW.out.size
            have hnext : bcells (x0 ++ Lib.joinTail sep (r.take j)) ++ bcells sep ++ bcells r[j] = bcells (x0 ++ Lib.joinTail sep (r.take (j + 1))) := by
              rw [Lib.joinTail_take_succ sep r j r[j] (List.getElem?_eq_getElem hjl2)]
              simp [bcells]
            have hl1 := HCle.out (j + 1)
            rw [Lib.joinTail_take_succ sep r j r[j] (List.getElem?_eq_getElem hjl2)] at hl1
            simp only [List.length_append] at hl1
            have hl0 : (bcells (x0 ++ Lib.joinTail sep (r.take j))).length = x0.length + (Lib.joinTail sep (r.take j)).length := by
              simp [bcells]
            generalize (Lib.joinTail sep (r.take j)).length = J at hl0 hl1
            obtain ⟨y, hy⟩ : ∃ y, r[j] = y := ⟨_, rfl⟩
            rw [hy] at hnext hl1 hcy
            have Hnx := Lib.hid hnext
            clear hnext hy hxy
            go_wp2_with fail
            refine (writeString_any w.heap.size w.heap.size _ sep wr HB.out (by rw [hl0]; omega) hBw).mono ?_
            rintro e w3 ⟨⟨_, rfl⟩, h3, hb3, _⟩
            have hBw3 : w.heap.size ≤ w3.heap.size := Nat.le_trans hBw hb3.size
            have H3 := Lib.hid h3
            have Hb3 := Lib.hid hb3
            clear h3 hb3
            go_wp2_with fail
            refine (writeString_any w.heap.size w.heap.size _ y w3 H3.out (by rw [List.length_append, hl0]; simp [bcells]; omega) hBw3).mono ?_
            rintro e w4 ⟨⟨_, rfl⟩, h4, hb4, _⟩
            rw [Hnx.out] at h4
            have H4 := Lib.hid h4
            have Hb4 := Lib.hid ((HW.out.trans Hb3.out).trans hb4)
            clear h4 hb4
            go_wp2
            exact ⟨⟨j + 1, by omega, by go_num, H4, Hb4⟩, by simp [intOf]; omega⟩
          · have hke : j = m := by omega
            subst hke
            have hfull : r.take j = r := List.take_of_length_le (by rw [Hm.out]; exact Nat.le_refl _)
            have hB' := HB.out
            rw [hfull, ← Hwhole.out] at hB'
            have hBw : w.heap.size ≤ wr.heap.size := HW.out.size
            go_wp2_with fail
            refine (cl_bld_string w.heap.size w.heap.size _ wr hB' hBw).mono ?_
            rintro e w5 ⟨rfl, hb5⟩
            have Hb5 := Lib.hid (HW.out.trans hb5)
            clear hb5 hB'
            go_wp2
            go_ret
            exact ⟨rfl, Hb5.out⟩)

theorem joinNl_eq : ∀ ls : List (List UInt8), Pb.joinNl ls = Lib.join ls [10]
  | [] => rfl
  | [x] => (Lib.join_one x [10]).symm
  | x :: y :: r => by
    have ih := joinNl_eq (y :: r)
    rw [Lib.join_cons] at ih ⊢
    show x ++ 10 :: Pb.joinNl (y :: r) = _
    rw [ih]
    simp [Lib.joinTail]
/-- strings.Join with the byte 10 -/
theorem sjoin_any (ls : List (List UInt8)) (A : Option Addr) (c : Nat) (w : World) (h : Row w w.heap.size 1 A ls.length (scells ls)) (hlc : ls.length ≤ c) (hN : ls.length ≤ 1000000000) (hl : (Pb.joinNl ls).length ≤ 1000000000000) :
    Calls Tryz.prog 157 #[.slice A ls.length c, .string ⟨#[10]⟩] w fun e w' => e = .returned (.string (bs (Pb.joinNl ls))) ∧ Below w.heap.size w w' := by
  rcases Nat.lt_or_ge 1 ls.length with h2 | h2
  · obtain ⟨b, o, rfl, hb, hc⟩ := ln_text_cell h (by omega)
    have := sjoin_many b o c ls [10] w (fun j hj => hc j hj) hb (by omega) (by omega) hlc (by simp) (by rw [← joinNl_eq]; omega)
    rw [← joinNl_eq] at this
    exact this
  · match ls, h, h2 with
    | [], _, _ => exact (sjoin_none A c [10] w).mono fun e w' ⟨he, hw⟩ => ⟨he, hw ▸ Below.refl _ _⟩
    | [x], h, _ =>
      obtain ⟨b, o, rfl, hb, hc⟩ := ln_text_cell h (by simp)
      exact (sjoin_one b o c x [10] w (hc 0 (by simp))).mono fun e w' ⟨he, hw⟩ => ⟨he, hw ▸ Below.refl _ _⟩
    | _ :: _ :: _, _, h2 => simp at h2
end Go.Proofs.YtmmgfoepfapnkaaGreatDoor

namespace Go.Proofs.YtmmgfoepfapnkaaGreatDoor
open Go.RowKit

theorem isGap_in (b : UInt8) : [(32 : UInt8), 9].contains b = Cl.isGap b := by
  simp only [Cl.isGap, List.contains, List.elem]
  cases b == 32 <;> cases b == 9 <;> rfl
theorem trimLeft_eq (l : List UInt8) : Lib.trimLeftS l [32, 9] = Fn.front l := by
  unfold Lib.trimLeftS
  induction l with
  | nil => rfl
  | cons b r ih =>
    rw [List.dropWhile_cons, isGap_in]
    cases hb : Cl.isGap b with
    | true => rw [if_pos rfl, ih, Fn.front_gap _ hb]
    | false => rw [if_neg (by simp), Fn.front_word _ hb]
theorem trimRight_eq (l : List UInt8) : Lib.trimRightS l [32, 9] = Fn.back l := by
  unfold Lib.trimRightS
  induction l with
  | nil => rfl
  | cons b r ih =>
    rw [List.reverse_cons, List.dropWhile_append]
    cases hr : Fn.back r with
    | nil =>
      rw [hr] at ih
      have h0 : r.reverse.dropWhile ([(32 : UInt8), 9].contains ·) = [] := by
        have := congrArg List.reverse ih
        simpa using this
      rw [h0]
      simp only [List.isEmpty_nil, if_true, List.dropWhile_cons, List.dropWhile_nil, isGap_in]
      cases hb : Cl.isGap b with
      | true => rw [Fn.back_gap hr hb]; rfl
      | false => rw [Fn.back_word _ hb, hr]; rfl
    | cons x y =>
      rw [hr] at ih
      have h0 : (r.reverse.dropWhile ([(32 : UInt8), 9].contains ·)).isEmpty = false := by
        cases hq : r.reverse.dropWhile ([(32 : UInt8), 9].contains ·) with
        | nil => rw [hq] at ih; cases ih
        | cons _ _ => rfl
      rw [h0, Fn.back_more (by rw [hr]; simp), hr, ← ih]
      simp
theorem trimS_eq (l : List UInt8) : Lib.trimS l [32, 9] = Fn.trim l := by
  unfold Lib.trimS
  rw [trimLeft_eq, trimRight_eq, Fn.front_back]; rfl

theorem trim_any (l : List UInt8) (w : World) (hl : l.length ≤ 140737488355328) :
    Calls Tryz.prog 154 #[.string (bs l), .string ⟨#[32, 9]⟩] w fun e w' => e = .returned (.string (bs (Fn.trim l))) ∧ Below w.heap.size w w' := by
  have h := Any.strings_Trim_laid Tryz.lays160 (by kernel_rfl) (bs l) ⟨#[32, 9]⟩ w (by rw [bs_size]; omega) (by decide) (ascii_of_all (by decide))
  change Calls Tryz.prog 154 _ _ (fun e w' => e = .returned (.string (bs (Lib.trimS l [32, 9]))) ∧ Below w.heap.size w w') at h
  rwa [trimS_eq] at h

theorem contains_any (l : List UInt8) (c : UInt8) (w : World) :
    Calls Tryz.prog 129 #[.string (bs l), .string ⟨#[c]⟩] w fun e w' => e = .returned (.bool (decide (c ∈ l))) ∧ w' = w := by
  have h := Tryz.strings_Contains_one (bs l) c w
  rwa [show decide (0 ≤ Lib.indexByte (bs l).data.toList c) = decide (c ∈ l) from by rw [← Lib.contains_iff_indexByte]; simp [bs]] at h

set_option maxHeartbeats 1000000 in
theorem clone_any (l : List UInt8) (w : World) (hl : l.length ≤ 140737488355328) :
    Calls Tryz.prog 59 #[.string (bs l)] w fun e w' => e = .returned (.string (bs l)) ∧ Below w.heap.size w w' := by
  go_enter Tryz.func59, Tryz.ntmps59
  go_wp2_with (go_at_call 76; refine (Tryz.stringslite_Clone (bs l) _ (by rw [bs_size]; omega)).mono ?_; rintro e w' ⟨rfl, hb⟩)
  go_ret
  exact ⟨rfl, hb⟩

/-- a fence as a value -/
def opv (o : Fn.Op) : Value := .agg #[.int .u8 (o.c.toNat : Int), .int .i64 (o.n : Int), .int .i64 (o.ind : Int), .string (bs o.info)]
def nov : Value := .agg #[.int .u8 0, .int .i64 0, .int .i64 0, .string ⟨#[]⟩]
def begv : Option Fn.Op → Value
  | none => .tuple #[nov, .bool false]
  | some o => .tuple #[opv o, .bool true]

end Go.Proofs.YtmmgfoepfapnkaaGreatDoor

namespace Go.Proofs.YtmmgfoepfapnkaaGreatDoor
open Go.RowKit

theorem hash_drop (r : List UInt8) : (r.dropWhile ([(35 : UInt8)].contains ·)).reverse = Lf.unhash r.reverse := by
  induction r with
  | nil => rfl
  | cons b r ih =>
    rw [List.dropWhile_cons, List.reverse_cons]
    by_cases h : b = 35
    · subst h
      rw [if_pos (by simp), ih, Lf.unhash_snoc_sign]
    · rw [if_neg (by simp [h]), Lf.unhash_snoc_word _ h, List.reverse_cons]
theorem trimHash_eq (l : List UInt8) : Lib.trimRightS l [35] = Lf.unhash l := by
  unfold Lib.trimRightS
  rw [hash_drop, List.reverse_reverse]

theorem trimHash_any (l : List UInt8) (w : World) (hl : l.length ≤ 140737488355328) :
    Calls Tryz.prog 196 #[.string (bs l), .string ⟨#[35]⟩] w fun e w' => e = .returned (.string (bs (Lf.unhash l))) ∧ Below w.heap.size w w' := by
  have h := Any.strings_TrimRight_laid Tryz.lays162 (by kernel_rfl) (bs l) ⟨#[35]⟩ w (by rw [bs_size]; omega) (by decide) (ascii_of_all (by decide))
  change Calls Tryz.prog 196 _ _ (fun e w' => e = .returned (.string (bs (Lib.trimRightS l [35]))) ∧ Below w.heap.size w w') at h
  rwa [trimHash_eq] at h

theorem trimBack_any (l : List UInt8) (w : World) (hl : l.length ≤ 140737488355328) :
    Calls Tryz.prog 196 #[.string (bs l), .string ⟨#[32, 9]⟩] w fun e w' => e = .returned (.string (bs (Fn.back l))) ∧ Below w.heap.size w w' := by
  have h := Any.strings_TrimRight_laid Tryz.lays162 (by kernel_rfl) (bs l) ⟨#[32, 9]⟩ w (by rw [bs_size]; omega) (by decide) (ascii_of_all (by decide))
  change Calls Tryz.prog 196 _ _ (fun e w' => e = .returned (.string (bs (Lib.trimRightS l [32, 9]))) ∧ Below w.heap.size w w') at h
  rwa [trimRight_eq] at h

theorem byte_back (b : UInt8) : ((b.toNat : Int)).toNat.toUInt8 = b := by
  rw [show ((b.toNat : Int)).toNat = b.toNat from by omega]
  simp
theorem indexByte_any (S : List UInt8) (b : UInt8) (w : World) :
    Calls Tryz.prog 87 #[.string (bs S), .int .u8 (b.toNat : Int)] w fun e w' => e = .returned (.int .i64 (Lib.indexByte S b)) ∧ w' = w := by
  have h := Tryz.strings_IndexByte (bs S) (b.toNat : Int) w
  rw [byte_back] at h
  exact h
theorem index_tests (S : List UInt8) (b : UInt8) : decide ((0 : Int) ≤ Lib.indexByte S b) = S.contains b := (Lib.contains_iff_indexByte S b).symm

end Go.Proofs.YtmmgfoepfapnkaaGreatDoor

namespace Go.Proofs.YtmmgfoepfapnkaaGreatDoor
open Go.RowKit

theorem first_byte (c : UInt8) (r : List UInt8) (w : World) :
    (Instr.index 9 (.string (bs (c :: r))) (.int .i64 0)).run Tryz.prog w = .ok (.int .u8 (c.toNat : Int)) w := run_byte (S := c :: r) (i := 0) (by simp) w

set_option maxHeartbeats 1000000 in
theorem begins_few (l : List UInt8) (C n : Nat) (c : UInt8) (r I : List UInt8) (w : World) (hn : Hid (Fn.begins l = none))
    (hi : ∀ w, Calls Tryz.prog 173 #[.string (bs l)] w fun e w' => e = .returned (.tuple #[.int .i64 (C : Int), .string (bs (c :: r)), .bool true]) ∧ Below w.heap.size w w')
    (hrun : ∀ w, Calls Tryz.prog 174 #[.string (bs (c :: r)), .int .u8 (c.toNat : Int)] w fun e w' => e = .returned (.int .i64 (n : Int)) ∧ w = w')
    (hrl : n ≤ (c :: r).length)
    (htr : ∀ w, Calls Tryz.prog 154 #[.string (bs ((c :: r).drop n)), .string ⟨#[32, 9]⟩] w fun e w' => e = .returned (.string (bs I)) ∧ Below w.heap.size w w')
    (h3 : n < 3) (hc : c = 96 ∨ c = 126) :
    Calls Tryz.prog 151 #[.string (bs l)] w fun e w' => e = .returned (begv (Fn.begins l)) ∧ Below w.heap.size w w' := by
  have hx := first_byte c r
  have ht := text_cons c r
  have hsl := run_from (S := c :: r) (i := n) hrl
  have hc2 : (((c.toNat : Int) != 96) = false) ∨ ((((c.toNat : Int) != 96) = true) ∧ (((c.toNat : Int) != 126) = false)) := by
    rcases hc with rfl | rfl
    · exact .inl rfl
    · exact .inr ⟨rfl, rfl⟩
  clear hc
  rcases hc2 with hc2 | ⟨hc1, hc2⟩
  all_goals
    go_enter Tryz.func151, Tryz.ntmps151
    go_wp2_with fail
    refine (hi _).mono ?_
    rintro e w1 ⟨rfl, hb1⟩
    replace hb1 := Lib.hid hb1
    go_wp2_with fail
    refine (hrun _).mono ?_
    rintro e w' ⟨rfl, rfl⟩
    go_wp2_with fail
    refine (htr _).mono ?_
    rintro e w2 ⟨rfl, hb2⟩
    replace hb2 := Lib.hid (ext_trans hb1.out hb2)
    obtain ⟨k0, k1, k2, k3, k4⟩ := blk_open hb2.out
    go_wp2
    exact bodyPost_ret (v := begv none) (by rw [results_cell_tmp rfl]; go_simp; rfl) rfl ⟨by rw [hn.out], blk_done hb2.out _ _ _ _⟩
set_option maxHeartbeats 1000000 in
theorem begins_quoted (l : List UInt8) (C n : Nat) (r I : List UInt8) (w : World) (hn : Hid (Fn.begins l = none))
    (hi : ∀ w, Calls Tryz.prog 173 #[.string (bs l)] w fun e w' => e = .returned (.tuple #[.int .i64 (C : Int), .string (bs (96 :: r)), .bool true]) ∧ Below w.heap.size w w')
    (hrun : ∀ w, Calls Tryz.prog 174 #[.string (bs (96 :: r)), .int .u8 96] w fun e w' => e = .returned (.int .i64 (n : Int)) ∧ w = w')
    (hrl : n ≤ (96 :: r).length)
    (htr : ∀ w, Calls Tryz.prog 154 #[.string (bs ((96 :: r).drop n)), .string ⟨#[32, 9]⟩] w fun e w' => e = .returned (.string (bs I)) ∧ Below w.heap.size w w')
    (hcn : ∀ w, Calls Tryz.prog 129 #[.string (bs I), .string ⟨#[96]⟩] w fun e w' => e = .returned (.bool true) ∧ w' = w)
    (h3 : ¬ n < 3) :
    Calls Tryz.prog 151 #[.string (bs l)] w fun e w' => e = .returned (begv (Fn.begins l)) ∧ Below w.heap.size w w' := by
  have hx := first_byte 96 r
  have ht := text_cons 96 r
  have hsl := run_from (S := 96 :: r) (i := n) hrl
  go_enter Tryz.func151, Tryz.ntmps151
  go_wp2_with fail
  refine (hi _).mono ?_
  rintro e w1 ⟨rfl, hb1⟩
  replace hb1 := Lib.hid hb1
  go_wp2_with fail
  refine (hrun _).mono ?_
  rintro e w' ⟨rfl, rfl⟩
  go_wp2_with fail
  refine (htr _).mono ?_
  rintro e w2 ⟨rfl, hb2⟩
  replace hb2 := Lib.hid (ext_trans hb1.out hb2)
  go_wp2_with fail
  refine (hcn _).mono ?_
  rintro e w' ⟨rfl, rfl⟩
  obtain ⟨k0, k1, k2, k3, k4⟩ := blk_open hb2.out
  go_wp2
  exact bodyPost_ret (v := begv none) (by rw [results_cell_tmp rfl]; go_simp; rfl) rfl ⟨by rw [hn.out], blk_done hb2.out _ _ _ _⟩

set_option maxHeartbeats 1000000 in
theorem begins_ticks (l : List UInt8) (C n : Nat) (r I : List UInt8) (w : World) (hn : Hid (Fn.begins l = some ⟨96, n, C, I⟩))
    (hi : ∀ w, Calls Tryz.prog 173 #[.string (bs l)] w fun e w' => e = .returned (.tuple #[.int .i64 (C : Int), .string (bs (96 :: r)), .bool true]) ∧ Below w.heap.size w w')
    (hrun : ∀ w, Calls Tryz.prog 174 #[.string (bs (96 :: r)), .int .u8 96] w fun e w' => e = .returned (.int .i64 (n : Int)) ∧ w = w')
    (hrl : n ≤ (96 :: r).length)
    (htr : ∀ w, Calls Tryz.prog 154 #[.string (bs ((96 :: r).drop n)), .string ⟨#[32, 9]⟩] w fun e w' => e = .returned (.string (bs I)) ∧ Below w.heap.size w w')
    (hcn : ∀ w, Calls Tryz.prog 129 #[.string (bs I), .string ⟨#[96]⟩] w fun e w' => e = .returned (.bool false) ∧ w' = w)
    (hcl : ∀ w, Calls Tryz.prog 59 #[.string (bs I)] w fun e w' => e = .returned (.string (bs I)) ∧ Below w.heap.size w w')
    (h3 : ¬ n < 3) :
    Calls Tryz.prog 151 #[.string (bs l)] w fun e w' => e = .returned (begv (Fn.begins l)) ∧ Below w.heap.size w w' := by
  have hx := first_byte 96 r
  have ht := text_cons 96 r
  have hsl := run_from (S := 96 :: r) (i := n) hrl
  go_enter Tryz.func151, Tryz.ntmps151
  go_wp2_with fail
  refine (hi _).mono ?_
  rintro e w1 ⟨rfl, hb1⟩
  replace hb1 := Lib.hid hb1
  go_wp2_with fail
  refine (hrun _).mono ?_
  rintro e w' ⟨rfl, rfl⟩
  go_wp2_with fail
  refine (htr _).mono ?_
  rintro e w2 ⟨rfl, hb2⟩
  replace hb2 := Lib.hid (ext_trans hb1.out hb2)
  go_wp2_with fail
  refine (hcn _).mono ?_
  rintro e w' ⟨rfl, rfl⟩
  go_wp2_with fail
  refine (hcl _).mono ?_
  rintro e w3 ⟨rfl, hb3⟩
  replace hb3 := Lib.hid (ext_trans hb2.out hb3)
  obtain ⟨k0, k1, k2, k3, k4⟩ := blk_open hb3.out
  go_wp2
  exact bodyPost_ret (v := begv (some ⟨96, n, C, I⟩)) (by rw [results_cell_tmp rfl]; go_simp; rfl) rfl ⟨by rw [hn.out], blk_done hb3.out _ _ _ _⟩

set_option maxHeartbeats 1000000 in
theorem begins_tildes (l : List UInt8) (C n : Nat) (r I : List UInt8) (w : World) (hn : Hid (Fn.begins l = some ⟨126, n, C, I⟩))
    (hi : ∀ w, Calls Tryz.prog 173 #[.string (bs l)] w fun e w' => e = .returned (.tuple #[.int .i64 (C : Int), .string (bs (126 :: r)), .bool true]) ∧ Below w.heap.size w w')
    (hrun : ∀ w, Calls Tryz.prog 174 #[.string (bs (126 :: r)), .int .u8 126] w fun e w' => e = .returned (.int .i64 (n : Int)) ∧ w = w')
    (hrl : n ≤ (126 :: r).length)
    (htr : ∀ w, Calls Tryz.prog 154 #[.string (bs ((126 :: r).drop n)), .string ⟨#[32, 9]⟩] w fun e w' => e = .returned (.string (bs I)) ∧ Below w.heap.size w w')
    (hcl : ∀ w, Calls Tryz.prog 59 #[.string (bs I)] w fun e w' => e = .returned (.string (bs I)) ∧ Below w.heap.size w w')
    (h3 : ¬ n < 3) :
    Calls Tryz.prog 151 #[.string (bs l)] w fun e w' => e = .returned (begv (Fn.begins l)) ∧ Below w.heap.size w w' := by
  have hx := first_byte 126 r
  have ht := text_cons 126 r
  have hsl := run_from (S := 126 :: r) (i := n) hrl
  go_enter Tryz.func151, Tryz.ntmps151
  go_wp2_with fail
  refine (hi _).mono ?_
  rintro e w1 ⟨rfl, hb1⟩
  replace hb1 := Lib.hid hb1
  go_wp2_with fail
  refine (hrun _).mono ?_
  rintro e w' ⟨rfl, rfl⟩
  go_wp2_with fail
  refine (htr _).mono ?_
  rintro e w2 ⟨rfl, hb2⟩
  replace hb2 := Lib.hid (ext_trans hb1.out hb2)
  go_wp2_with fail
  refine (hcl _).mono ?_
  rintro e w3 ⟨rfl, hb3⟩
  replace hb3 := Lib.hid (ext_trans hb2.out hb3)
  obtain ⟨k0, k1, k2, k3, k4⟩ := blk_open hb3.out
  go_wp2
  exact bodyPost_ret (v := begv (some ⟨126, n, C, I⟩)) (by rw [results_cell_tmp rfl]; go_simp; rfl) rfl ⟨by rw [hn.out], blk_done hb3.out _ _ _ _⟩

set_option maxHeartbeats 1000000 in
theorem begins_other (l : List UInt8) (C : Nat) (c : UInt8) (r : List UInt8) (w : World) (hn : Hid (Fn.begins l = none))
    (hi : ∀ w, Calls Tryz.prog 173 #[.string (bs l)] w fun e w' => e = .returned (.tuple #[.int .i64 (C : Int), .string (bs (c :: r)), .bool true]) ∧ Below w.heap.size w w')
    (hc : ¬ (c = 96 ∨ c = 126)) :
    Calls Tryz.prog 151 #[.string (bs l)] w fun e w' => e = .returned (begv (Fn.begins l)) ∧ Below w.heap.size w w' := by
  have hx := first_byte c r
  have ht := text_cons c r
  have hc1 : ((c.toNat : Int) != 96) = true := by have := byte_ne (n := 96) (by omega) (fun h => hc (.inl h)); simpa using this
  have hc2 : ((c.toNat : Int) != 126) = true := by have := byte_ne (n := 126) (by omega) (fun h => hc (.inr h)); simpa using this
  clear hc
  go_enter Tryz.func151, Tryz.ntmps151
  go_wp2_with fail
  refine (hi _).mono ?_
  rintro e w1 ⟨rfl, hb1⟩
  replace hb1 := Lib.hid hb1
  obtain ⟨k0, k1, k2, k3, k4⟩ := blk_open hb1.out
  go_wp2
  exact bodyPost_ret (v := begv none) (by rw [results_cell_tmp rfl]; go_simp; rfl) rfl ⟨by rw [hn.out], blk_done hb1.out _ _ _ _⟩

set_option maxHeartbeats 1000000 in
theorem begins_empty (l : List UInt8) (C : Nat) (w : World) (hn : Hid (Fn.begins l = none))
    (hi : ∀ w, Calls Tryz.prog 173 #[.string (bs l)] w fun e w' => e = .returned (.tuple #[.int .i64 (C : Int), .string (bs ([])), .bool true]) ∧ Below w.heap.size w w') :
    Calls Tryz.prog 151 #[.string (bs l)] w fun e w' => e = .returned (begv (Fn.begins l)) ∧ Below w.heap.size w w' := by
  have ht := text_nil
  go_enter Tryz.func151, Tryz.ntmps151
  go_wp2_with fail
  refine (hi _).mono ?_
  rintro e w1 ⟨rfl, hb1⟩
  replace hb1 := Lib.hid hb1
  obtain ⟨k0, k1, k2, k3, k4⟩ := blk_open hb1.out
  go_wp2
  exact bodyPost_ret (v := begv none) (by rw [results_cell_tmp rfl]; go_simp; rfl) rfl ⟨by rw [hn.out], blk_done hb1.out _ _ _ _⟩

set_option maxHeartbeats 1000000 in
theorem begins_far (l : List UInt8) (C : Nat) (r : List UInt8) (w : World) (hn : Hid (Fn.begins l = none))
    (hi : ∀ w, Calls Tryz.prog 173 #[.string (bs l)] w fun e w' => e = .returned (.tuple #[.int .i64 (C : Int), .string (bs (r)), .bool false]) ∧ Below w.heap.size w w') :
    Calls Tryz.prog 151 #[.string (bs l)] w fun e w' => e = .returned (begv (Fn.begins l)) ∧ Below w.heap.size w w' := by
  go_enter Tryz.func151, Tryz.ntmps151
  go_wp2_with fail
  refine (hi _).mono ?_
  rintro e w1 ⟨rfl, hb1⟩
  replace hb1 := Lib.hid hb1
  obtain ⟨k0, k1, k2, k3, k4⟩ := blk_open hb1.out
  go_wp2
  exact bodyPost_ret (v := begv none) (by rw [results_cell_tmp rfl]; go_simp; rfl) rfl ⟨by rw [hn.out], blk_done hb1.out _ _ _ _⟩

theorem begins_any (l : List UInt8) (w : World) (hl : l.length ≤ 140737488355328) :
    Calls Tryz.prog 151 #[.string (bs l)] w fun e w' => e = .returned (begv (Fn.begins l)) ∧ Below w.heap.size w w' := by
  have hi := fun w => inner_any l w hl
  have hle : (Fn.rs l).length ≤ l.length := by unfold Fn.rs; rw [List.length_drop]; omega
  by_cases hC : Fn.cl l ≤ 3
  · have hd : decide ((Fn.cl l : Int) ≤ 3) = true := by simp; omega
    rw [hd] at hi
    clear hd
    rcases hR : Fn.rs l with _ | ⟨c, r⟩
    · rw [hR] at hi
      exact begins_empty l _ w (Lib.hid (Fn.begins_nil hR)) hi
    · rw [hR] at hi
      by_cases hc : c = 96 ∨ c = 126
      · have hgn := @Fn.begins_no l c r hR
        have hgy := @Fn.begins_yes l c r hR hC hc
        rw [hR] at hle
        have hrun := fun w => run_any (c :: r) c w (by omega)
        have hrl := Fn.run_le c (c :: r)
        have htr := fun w => trim_any ((c :: r).drop (Fn.run c (c :: r))) w (by rw [List.length_drop]; omega)
        have hil := Fn.trim_len ((c :: r).drop (Fn.run c (c :: r)))
        rw [List.length_drop] at hil
        have hcn := fun w => contains_any (Fn.info (c :: r) c) 96 w
        have hcl := fun w => clone_any (Fn.info (c :: r) c) w (by unfold Fn.info; omega)
        by_cases h3 : Fn.run c (c :: r) < 3
        · exact begins_few l _ _ c r _ w (Lib.hid (hgn (by omega))) hi hrun hrl htr h3 hc
        · rcases hc with rfl | rfl
          · by_cases h9 : 96 ∈ Fn.info (96 :: r) 96
            · rw [decide_eq_true h9] at hcn
              exact begins_quoted l _ _ r _ w (Lib.hid (hgn (fun h => h.2.2.2 ⟨rfl, h9⟩))) hi hrun hrl htr hcn h3
            · rw [decide_eq_false h9] at hcn
              exact begins_ticks l _ _ r _ w (Lib.hid (hgy (by omega) (fun h => h9 h.2))) hi hrun hrl htr hcn hcl h3
          · exact begins_tildes l _ _ r _ w (Lib.hid (hgy (by omega) (fun h => absurd h.1 (by decide)))) hi hrun hrl htr hcl h3
      · exact begins_other l _ c r w (Lib.hid (Fn.begins_no hR (fun h => hc h.2.1))) hi hc
  · have hd : decide ((Fn.cl l : Int) ≤ 3) = false := by simp; omega
    have hn : Hid (Fn.begins l = none) := Lib.hid (by
      rcases hR : Fn.rs l with _ | ⟨c, r⟩
      · exact Fn.begins_nil hR
      · exact Fn.begins_no hR (fun h => hC h.1))
    rw [hd] at hi
    exact begins_far l _ _ w hn hi
end Go.Proofs.YtmmgfoepfapnkaaGreatDoor

namespace Go.Proofs.YtmmgfoepfapnkaaGreatDoor
open Go.RowKit

/-- a fence as a value: its sign, its count, and what doesn't matter -/
def fv (c : UInt8) (n i : Int) (s : ByteArray) : Value := .agg #[.int .u8 (c.toNat : Int), .int .i64 n, .int .i64 i, .string s]

theorem ends_tests (c : UInt8) (n : Int) (l : List UInt8) :
    (¬ Fn.cl l ≤ 3 ∧ Fn.ends c n l = false) ∨ (Fn.cl l ≤ 3 ∧ n < 1 ∧ Fn.ends c n l = false) ∨ (Fn.cl l ≤ 3 ∧ ¬ n < 1 ∧ ¬ n ≤ (Fn.run c (Fn.rs l) : Int) ∧ Fn.ends c n l = false) ∨
    (Fn.cl l ≤ 3 ∧ ¬ n < 1 ∧ n ≤ (Fn.run c (Fn.rs l) : Int) ∧ Fn.ends c n l = Fn.emp ((Fn.rs l).drop (Fn.run c (Fn.rs l)))) := by
  by_cases h1 : Fn.cl l ≤ 3
  · by_cases h2 : n < 1
    · exact .inr (.inl ⟨h1, h2, Fn.ends_no (fun h => by omega)⟩)
    · by_cases h3 : n ≤ (Fn.run c (Fn.rs l) : Int)
      · exact .inr (.inr (.inr ⟨h1, h2, h3, Fn.ends_is ⟨by omega, h1, h3⟩⟩))
      · exact .inr (.inr (.inl ⟨h1, h2, h3, Fn.ends_no (fun h => h3 h.2.2)⟩))
  · exact .inl ⟨h1, Fn.ends_no (fun h => h1 h.2.1)⟩

theorem rs_len (l : List UInt8) : (Fn.rs l).length ≤ l.length := by unfold Fn.rs; rw [List.length_drop]; omega

set_option maxHeartbeats 2000000 in
theorem ends_any (c : UInt8) (n i : Int) (s : ByteArray) (l : List UInt8) (w : World) (hl : l.length ≤ 140737488355328) :
    Calls Tryz.prog 147 #[fv c n i s, .string (bs l)] w fun e w' => e = .returned (.bool (Fn.ends c n l)) ∧ Below w.heap.size w w' := by
  have hi := fun w => inner_any l w hl
  have hle := rs_len l
  have hrun := fun w => run_any (Fn.rs l) c w (by omega)
  have hrl := Fn.run_le c (Fn.rs l)
  have hem := fun w => empty_any ((Fn.rs l).drop (Fn.run c (Fn.rs l))) w (by rw [List.length_drop]; omega)
  have hed : decide ((Cl.lead Cl.inf ((Fn.rs l).drop (Fn.run c (Fn.rs l))) 0).2 = ((Fn.rs l).drop (Fn.run c (Fn.rs l))).length) = Fn.emp ((Fn.rs l).drop (Fn.run c (Fn.rs l))) := rfl
  rw [hed] at hem
  have hsl := run_from (S := Fn.rs l) (i := Fn.run c (Fn.rs l)) hrl
  have ht := ends_tests c n l
  clear hed
  obtain ⟨N, hN⟩ : ∃ N, Fn.run c (Fn.rs l) = N := ⟨_, rfl⟩
  obtain ⟨C, hC⟩ : ∃ C, Fn.cl l = C := ⟨_, rfl⟩
  obtain ⟨S, hS⟩ : ∃ S, Fn.rs l = S := ⟨_, rfl⟩
  rw [hN] at hrun hrl hem hsl ht
  rw [hC] at hi ht
  rw [hS] at hi hle hrun hrl hem hsl ht
  clear hN hC hS
  rcases ht with ⟨h1, he⟩ | ⟨h1, h2, he⟩ | ⟨h1, h2, h3, he⟩ | ⟨h1, h2, h3, he⟩
  · have hd : decide ((C : Int) ≤ 3) = false := by simp; omega
    rw [hd] at hi
    replace he := Lib.hid he
    clear hd h1
    unfold fv
    go_enter Tryz.func147, Tryz.ntmps147
    go_wp2_with fail
    refine (hi _).mono ?_
    rintro e w1 ⟨rfl, hb1⟩
    replace hb1 := Lib.hid (ext_trans (ext_alloc _ _) hb1)
    go_wp2
    go_ret
    exact ⟨by rw [he.out]; rfl, hb1.out⟩
  · have hd : decide ((C : Int) ≤ 3) = true := by simp; omega
    rw [hd] at hi
    replace he := Lib.hid he
    clear hd h1
    unfold fv
    go_enter Tryz.func147, Tryz.ntmps147
    go_wp2_with fail
    refine (hi _).mono ?_
    rintro e w1 ⟨rfl, hb1⟩
    obtain ⟨k0, k1, k2, k3, k4⟩ := blk_open hb1
    replace hb1 := Lib.hid (ext_trans (ext_alloc _ _) hb1)
    go_wp2
    go_ret
    exact ⟨by rw [he.out]; rfl, hb1.out⟩
  · have hd : decide ((C : Int) ≤ 3) = true := by simp; omega
    rw [hd] at hi
    replace he := Lib.hid he
    clear hd h1
    unfold fv
    go_enter Tryz.func147, Tryz.ntmps147
    go_wp2_with fail
    refine (hi _).mono ?_
    rintro e w1 ⟨rfl, hb1⟩
    obtain ⟨k0, k1, k2, k3, k4⟩ := blk_open hb1
    replace hb1 := Lib.hid (ext_trans (ext_alloc _ _) hb1)
    go_wp2_with fail
    refine (hrun _).mono ?_
    rintro e w' ⟨rfl, rfl⟩
    go_wp2
    go_ret
    exact ⟨by rw [he.out]; rfl, hb1.out⟩
  · have hd : decide ((C : Int) ≤ 3) = true := by simp; omega
    rw [hd] at hi
    replace he := Lib.hid he
    clear hd h1
    unfold fv
    go_enter Tryz.func147, Tryz.ntmps147
    go_wp2_with fail
    refine (hi _).mono ?_
    rintro e w1 ⟨rfl, hb1⟩
    obtain ⟨k0, k1, k2, k3, k4⟩ := blk_open hb1
    replace hb1 := Lib.hid (ext_trans (ext_alloc _ _) hb1)
    go_wp2_with fail
    refine (hrun _).mono ?_
    rintro e w' ⟨rfl, rfl⟩
    go_wp2_with fail
    refine (hem _).mono ?_
    rintro e w' ⟨rfl, rfl⟩
    go_wp2
    go_ret
    exact ⟨by rw [he.out]; rfl, hb1.out⟩

end Go.Proofs.YtmmgfoepfapnkaaGreatDoor

namespace Go.Proofs.YtmmgfoepfapnkaaGreatDoor
open Go.RowKit

set_option maxHeartbeats 4000000 in
set_option maxRecDepth 100000 in
theorem writeRune_any (B b : Nat) (xs : List Value) (r : Int) (hr0 : -2147483648 ≤ r) (hr1 : r ≤ 2147483647) (w : World) (h : IsB B b xs w) (hlen : xs.length + 4 ≤ 140737488355328) (hBw : B ≤ w.heap.size) :
    Calls Tryz.prog 121 #[.pointer (some ⟨b, 0, none⟩), .int .i32 r] w fun e w' => (∃ v, e = .returned v) ∧ (IsB B b (xs ++ Lib.runeCells r) w' ∧ Below B w w' ∧ Lib.OthersKept 5 (some b) w w') := by
  have hk4 := Lib.runeCells_le r
  go_enter Tryz.func121, Tryz.ntmps121
  go_wp2_with (go_at_call 155; refine (check_any B b xs _ h).mono ?_)
  rintro e w1 ⟨rfl, h1, hb1, hk1⟩
  obtain ⟨hB, v, hbk, hown, hne⟩ := h1
  obtain ⟨ao, cap, rfl⟩ : ∃ ao cap, v = .slice ao xs.length cap := by
    rcases hown.2 with ⟨hv, h0⟩ | ⟨g, cap, cur, fz, hv, _⟩
    · exact ⟨none, 0, by rw [hv, h0]⟩
    · exact ⟨_, _, hv⟩
  have c0 : w1.cell? ⟨b, 0, none⟩ = some (.pointer (some ⟨b, 0, none⟩)) := by rw [Lib.cell_of_heap hbk]; rfl
  have c1 : w1.cell? ⟨b, 1, none⟩ = some (.slice ao xs.length cap) := by rw [Lib.cell_of_heap hbk]; rfl
  go_wp2_with (go_at_call 156; refine (Tryz.utf8_AppendRune_row B _ xs.length xs r hr0 hr1 _ hown hlen (by have := hb1.size; omega)).mono ?_)
  rintro e w2 ⟨v', rfl, hown', o, hgrow⟩
  have hlt : b < w1.heap.size := by
    rcases Nat.lt_or_ge b w1.heap.size with h' | h'
    · exact h'
    · simp [Array.getElem?_eq_none h'] at hbk
  have hb2 : w2.heap[b]? = some (.cells #[.pointer (some ⟨b, 0, none⟩), .slice ao xs.length cap] 196 (0, 0)) := by
    rw [hgrow.block b (by simp; omega) (fun e => hne e.symm), Lib.alloc_old w1 _ b hlt]
    exact hbk
  have d0 : w2.cell? ⟨b, 0, none⟩ = some (.pointer (some ⟨b, 0, none⟩)) := by rw [Lib.cell_of_heap hb2]; rfl
  have d1 : w2.cell? ⟨b, 1, none⟩ = some (.slice ao xs.length cap) := by rw [Lib.cell_of_heap hb2]; rfl
  have f1 : w2.frozen? ⟨b, 1, none⟩ = false := Lib.frozen_of_heap hb2 1
  obtain ⟨g, cap', rfl⟩ : ∃ g cap', v' = .slice (some ⟨g, 0, none⟩) (xs.length + (Lib.runeCells r).length) cap' := by
    rcases hown'.2 with ⟨_, h0⟩ | ⟨g, cap', cur, fz, hv, _⟩
    · omega
    · exact ⟨g, cap', hv⟩
  go_wp2
  go_ret2
  refine ⟨⟨_, rfl⟩, Or.inr ?_, ?_, ((hk1.alloc _).grown hgrow (Lib.ownsRowF_kind (hown.alloc _))).setCell ⟨b, 1, none⟩ rfl _⟩
  · exact Lib.BuilderAtF.put (T := 196) (e := 5) hB hb2 (bs' := xs ++ Lib.runeCells r) (by simpa using hown') (by decide)
  · exact ((hb1.alloc (by have := hb1.size; omega) _).grown hgrow (by have := hb1.size; simp; omega) (fun k hk => (hown.lt k hk).1)).setCell (p := ⟨b, 1, none⟩) hB _
end Go.Proofs.YtmmgfoepfapnkaaGreatDoor
