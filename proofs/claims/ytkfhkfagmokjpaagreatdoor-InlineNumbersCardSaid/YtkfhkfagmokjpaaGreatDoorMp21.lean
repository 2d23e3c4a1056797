/- Package inline's Text: a text that grows within a struct that tells how much room is left. Package inline's Text: what rows of inlines say. -/
import Derived.Test.YtkfhkfagmokjpaaGreatDoorMp18
import Derived.Test.YtkfhkfagmokjpaaGreatDoorMp16
import Derived.Test.YtkfhkfagmokjpaaGreatDoorMp17
import Derived.Test.YtkfhkfagmokjpaaGreatDoorMp14
import Derived.Test.YtkfhkfagmokjpaaGreatDoorMp20
import Derived.Test.YtkfhkfagmokjpaaGreatDoorMp13
namespace Go.Proofs.YtkfhkfagmokjpaaGreatDoor
open Go.RowKit

def TlAt (B b : Nat) (p : Value) (l : List UInt8) (room : Nat) (w : World) : Prop :=
  B ≤ b ∧ ∃ v, w.heap[b]? = some (.cells #[p, v, .int .i64 (room : Int)] 47 (0, 0)) ∧ w.ownsRow B 5 1 v l.length (bcells l)
/-- the text, and the room -/
def Tl (B b : Nat) (l : List UInt8) (room : Nat) (w : World) : Prop := TlAt B b (.pointer none) l room w ∨ TlAt B b (.pointer (some ⟨b, 0, none⟩)) l room w
theorem own_type {w : World} {B size n g : Nat} {E : TypeId} {v : Value} {xs : List Value} (h : w.ownsRow B E size v n xs) (hv : v.ownBlock = some g) : ∃ cur fr, w.heap[g]? = some (.cells cur E fr) := by
  rcases h.2 with ⟨rfl, _⟩ | ⟨g', cap, cur, rfl, _, hg, _⟩
  · cases hv
  · simp [Value.ownBlock] at hv
    subst hv
    exact ⟨_, _, hg⟩
section
variable {w w' : World} {B b room : Nat} {p : Value} {l : List UInt8}
theorem tl_ne {v : Value} {xs : List Value} {n : Nat} {cs : Array Value} (hb : w.heap[b]? = some (.cells cs 47 (0, 0))) (h : w.ownsRow B 5 1 v n xs) : v.ownBlock ≠ some b := fun e => by
  obtain ⟨cur, fr, hg⟩ := own_type h e
  rw [hb] at hg
  injection hg with hg
  injection hg with _ hg _
  exact absurd hg (by decide)
theorem tlLies : liesAt Tryz.prog Tryz.prog.depth 47 (3 / Tryz.prog.cellsOf 47) 0 45 1 = true := by kernel_rfl
set_option maxHeartbeats 1000000 in
set_option maxRecDepth 100000 in
theorem tl_fresh (b : Nat) (w : World) (h0 : w.cell? ⟨b, 0, none⟩ = some (.pointer none)) (hsh : w.shape? b = some (47, 3)) (hfz : w.frozen? ⟨b, 0, none⟩ = false) :
    Calls Tryz.prog 59 #[.pointer (some ⟨b, 0, none⟩)] w fun e w' => e = .returned (.tuple #[]) ∧ w' = w.setCell ⟨b, 0, none⟩ (.pointer (some ⟨b, 0, none⟩)) := by
  obtain ⟨j, hj, hjs⟩ := Option.map_eq_some_iff.1 bldSize
  go_enter Tryz.func59, Tryz.ntmps59
  go_wp2
  rw [Lib.run_to_unsafe w ⟨b, 0, none⟩ Tryz.underlying43 Tryz.underlying122 hj (by rw [hjs]; decide) hsh (Nat.zero_lt_succ 2)]
  simp only [Result.andThen]
  rw [Oper.upon_value]
  go_wp2
  rw [run_callFunc_extern Tryz.func74 (by kernel_rfl) (by kernel_rfl) (by kernel_rfl) (e := Extern.AbiNoEscape.same) (by kernel_rfl)]
  rw [Lib.run_noEscape]
  simp only [Result.andThen]
  rw [Oper.upon_value]
  go_wp2
  rw [Lib.run_from_unsafe w ⟨b, 0, none⟩ Tryz.underlying122 Tryz.underlying43 hj hsh tlLies]
  simp only [Result.andThen]
  rw [Oper.upon_value]
  go_wp2
  go_end0
  exact ⟨rfl, rfl⟩
theorem tl_check (h : Tl B b l room w) :
    Calls Tryz.prog 59 #[.pointer (some ⟨b, 0, none⟩)] w fun e w' => e = .returned (.tuple #[]) ∧ (TlAt B b (.pointer (some ⟨b, 0, none⟩)) l room w' ∧ Below B w w' ∧ Lib.OthersKept 5 (some b) w w') := by
  rcases h with ⟨hB, v, hb, ho⟩ | h
  · refine (tl_fresh b w (blk_cell hb 0) (by simp [World.shape?, hb]) (blk_free hb 0)).mono ?_
    rintro e w' ⟨rfl, rfl⟩
    exact ⟨rfl, ⟨hB, v, heap_setCell_same w b 0 _ _ _ hb, World.ownsRow.kept ho (grown_set w ⟨b, 0, none⟩ _) (.inr (tl_ne hb ho))⟩, (Below.refl B w).setCell (p := ⟨b, 0, none⟩) hB _, (Lib.OthersKept.refl _ _ w).setCell ⟨b, 0, none⟩ rfl _⟩
  · have hc : w.cell? ⟨b, 0, none⟩ = some (.pointer (some ⟨b, 0, none⟩)) := by obtain ⟨_, v, hb, _⟩ := h; exact blk_cell hb 0
    refine (check_used b w hc).mono ?_
    rintro e w' ⟨rfl, rfl⟩
    exact ⟨rfl, h, Below.refl B _, Lib.OthersKept.refl _ _ _⟩
theorem tl_put {v v' : Value} {l' : List UInt8} (hB : B ≤ b) (hb : w.heap[b]? = some (.cells #[p, v, .int .i64 (room : Int)] 47 (0, 0))) (ho : w.ownsRow B 5 1 v' l'.length (bcells l')) : TlAt B b p l' room (w.setCell ⟨b, 1, none⟩ v') :=
  ⟨hB, v', heap_setCell_same w b 1 #[p, v, .int .i64 (room : Int)] _ v' hb, World.ownsRow.kept ho (grown_set w ⟨b, 1, none⟩ _) (.inr (tl_ne hb ho))⟩
set_option maxHeartbeats 2000000 in
set_option maxRecDepth 100000 in
theorem tl_byte (h : Tl B b l room w) (c : UInt8) {x : Int} (hx : x = (c.toNat : Int)) (hlen : l.length ≤ 1000000000) (hBw : B ≤ w.heap.size) :
    Calls Tryz.prog 34 #[.pointer (some ⟨b, 0, none⟩), .int .u8 x] w fun e w' => e = .returned .nilIface ∧ (Tl B b (l ++ [c]) room w' ∧ Below B w w' ∧ Lib.OthersKept 5 (some b) w w') := by
  subst hx
  obtain ⟨x, hx⟩ : ∃ x : Int, x = (c.toNat : Int) := ⟨_, rfl⟩
  rw [← hx]
  replace hx := Lib.hid hx
  go_enter Tryz.func34, Tryz.ntmps34
  go_wp2_with (go_at_call 59; refine (tl_check h).mono ?_)
  rintro e w1 ⟨rfl, h1, hb1, hk1⟩
  obtain ⟨hB, v, hbk, hown⟩ := h1
  have c0 : w1.cell? ⟨b, 0, none⟩ = some (.pointer (some ⟨b, 0, none⟩)) := blk_cell hbk 0
  have c1 : w1.cell? ⟨b, 1, none⟩ = some v := blk_cell hbk 1
  have hne := tl_ne hbk hown
  have hB1 := Nat.le_trans hBw hb1.size
  have hlt : b < w1.heap.size := (Array.getElem?_eq_some_iff.1 hbk).1
  go_wp2_with (at_builtin; refine wpList_app_two rfl _ _ rfl ilBytEI rfl hown rfl rfl rfl (by intro u hu; simp at hu; subst hu; rfl) (by omega) (by omega) hB1 ?_)
  intro v' w2 ho hg hbb hat
  have hb2 := (hg.out.block b hlt (fun e => hne e.symm)).trans hbk
  have d0 : w2.cell? ⟨b, 0, none⟩ = some (.pointer (some ⟨b, 0, none⟩)) := blk_cell hb2 0
  have d1 : w2.cell? ⟨b, 1, none⟩ = some v := blk_cell hb2 1
  have f1 : w2.frozen? ⟨b, 1, none⟩ = false := blk_free hb2 1
  obtain ⟨g, cp, rfl, hcp, _, _⟩ := hq_some ho (by omega)
  have hgr := Lib.hid hg.out
  have ho' : w2.ownsRow B 5 1 (.slice (some ⟨g, 0, none⟩) (l.length + 1) cp) (l ++ [c]).length (bcells (l ++ [c])) := by
    have e : bcells (l ++ [c]) = bcells l ++ [.int .u8 x] := by rw [hx.out]; simp [bcells, bv]
    rw [e, List.length_append, List.length_singleton]
    exact ho
  have hfin := tl_put hB hb2 ho'
  replace hfin := Lib.hid hfin
  have hown' := Lib.hid hown
  clear ho ho' hg hown hat
  go_wp2
  go_ret
  exact ⟨rfl, Or.inr hfin.out, (hb1.trans hbb).setCell (p := ⟨b, 1, none⟩) hB _, (hk1.grown hgr.out (Lib.ownsRowF_kind (World.ownsRowF_of hown'.out))).setCell ⟨b, 1, none⟩ rfl _⟩
set_option maxHeartbeats 2000000 in
set_option maxRecDepth 100000 in
theorem tl_str (h : Tl B b l room w) (t : List UInt8) (hlen : l.length + t.length ≤ 1000000000) (hBw : B ≤ w.heap.size) :
    Calls Tryz.prog 35 #[.pointer (some ⟨b, 0, none⟩), .string (bs t)] w fun e w' => (∃ v, e = .returned v) ∧ (Tl B b (l ++ t) room w' ∧ Below B w w' ∧ Lib.OthersKept 5 (some b) w w') := by
  have hsz := bs_size t
  go_enter Tryz.func35, Tryz.ntmps35
  go_wp2_with (go_at_call 59; refine (tl_check h).mono ?_)
  rintro e w1 ⟨rfl, h1, hb1, hk1⟩
  obtain ⟨hB, v, hbk, hown⟩ := h1
  have c0 : w1.cell? ⟨b, 0, none⟩ = some (.pointer (some ⟨b, 0, none⟩)) := blk_cell hbk 0
  have c1 : w1.cell? ⟨b, 1, none⟩ = some v := blk_cell hbk 1
  have hne := tl_ne hbk hown
  have hB1 := Nat.le_trans hBw hb1.size
  have hlt : b < w1.heap.size := (Array.getElem?_eq_some_iff.1 hbk).1
  go_wp2_with (at_builtin; refine wpList_app_text rfl _ _ rfl ilBytEI (by kernel_rfl) Tryz.underlying9 rfl hown rfl (by omega) hB1 ?_)
  intro v' w2 ho hg hbb
  have hb2 := (hg.out.block b hlt (fun e => hne e.symm)).trans hbk
  have d0 : w2.cell? ⟨b, 0, none⟩ = some (.pointer (some ⟨b, 0, none⟩)) := blk_cell hb2 0
  have d1 : w2.cell? ⟨b, 1, none⟩ = some v := blk_cell hb2 1
  have f1 : w2.frozen? ⟨b, 1, none⟩ = false := blk_free hb2 1
  obtain ⟨A', cp, rfl, hcp⟩ := own_shape ho
  have hgr := Lib.hid hg.out
  have hfin := tl_put (l' := l ++ t) hB hb2 (by rw [List.length_append]; exact ho)
  replace hfin := Lib.hid hfin
  have hown' := Lib.hid hown
  clear ho hg hown
  go_wp2
  go_ret2
  exact ⟨⟨_, rfl⟩, Or.inr hfin.out, (hb1.trans hbb).setCell (p := ⟨b, 1, none⟩) hB _, (hk1.grown hgr.out (Lib.ownsRowF_kind (World.ownsRowF_of hown'.out))).setCell ⟨b, 1, none⟩ rfl _⟩
end
set_option maxHeartbeats 4000000 in
set_option maxRecDepth 100000 in
/-- the text that has grown -/
theorem tl_none {B b g0 : Nat} {w : World} (p : Value) (r : Value) (A : Option Addr) (c : Nat) (hBw : B ≤ w.heap.size) (hbk : w.heap[b]? = some (.cells #[p, .slice A 0 c, r] 47 (0, 0))) (hA : A = none ∧ c = 0 ∨ ∃ g cur, A = some ⟨g, 0, none⟩ ∧ w.heap[g]? = some (.cells cur 5 (0, 0))) (_ : g0 = 0) :
    Calls Tryz.prog 20 #[.pointer (some ⟨b, 0, none⟩)] w fun e w' => e = .returned (.string ⟨#[]⟩) ∧ Below B w w' := by
  have mixed : Tryz.prog.follows .mixedOrders = true := by kernel_rfl
  have hUS := fun (W : World) (q : Option Addr) => Lib.run_unsafeString_none (P := Tryz.prog) W 86 3 9 q
  have hlt : b < w.heap.size := (Array.getElem?_eq_some_iff.1 hbk).1
  have c1 : w.drew.cell? ⟨b, 1, none⟩ = some (.slice A 0 c) := blk_cell (w1 := w.drew) hbk 1
  rcases hA with ⟨rfl, rfl⟩ | ⟨g, cur, rfl, hg⟩
  · have hSD : (Builtin.unsafeSliceData_ #[22] 86 #[.slice none 0 0]).run Tryz.prog w.drew = .ok (.pointer none) w.drew := rfl
    go_enter Tryz.func20, Tryz.ntmps20
    go_wp2
    go_region_o
    all_goals (go_wp2; go_ret; exact ⟨rfl, Below.drew (Below.refl B w)⟩)
  · by_cases hc0 : c = 0
    · subst hc0
      have hSD : (Builtin.unsafeSliceData_ #[22] 86 #[.slice (some ⟨g, 0, none⟩) 0 0]).run Tryz.prog w.drew = .ok (.pointer (some ⟨w.drew.heap.size, 0, none⟩)) (w.drew.alloc (.view ⟨g, 0, none⟩ 5)) :=
        Lib.run_unsafeSliceData_zero w.drew _ _ 5 Tryz.underlying86 ⟨g, 0, none⟩ 0 (5, cur.size) (by have hg' : w.drew.heap[g]? = some (.cells cur 5 (0, 0)) := hg; simp [World.shape?, hg'])
      have c2 : (w.drew.alloc (.view ⟨g, 0, none⟩ 5)).cell? ⟨b, 1, none⟩ = some (.slice (some ⟨g, 0, none⟩) 0 0) := by
        have : (w.drew.alloc (.view ⟨g, 0, none⟩ 5)).heap[b]? = _ := (Lib.alloc_old w.drew _ b hlt).trans hbk
        exact blk_cell this 1
      have c3 : (w.alloc (.view ⟨g, 0, none⟩ 5)).drew.cell? ⟨b, 1, none⟩ = some (.slice (some ⟨g, 0, none⟩) 0 0) := c2
      have c0 : w.cell? ⟨b, 1, none⟩ = some (.slice (some ⟨g, 0, none⟩) 0 0) := c1
      go_enter Tryz.func20, Tryz.ntmps20
      go_wp2
      go_region_o
      all_goals (go_wp2; go_ret; exact ⟨rfl, (Below.drew (Below.refl B w)).alloc hBw _⟩)
    · have hSD : (Builtin.unsafeSliceData_ #[22] 86 #[.slice (some ⟨g, 0, none⟩) 0 c]).run Tryz.prog w.drew = .ok (.pointer (some ⟨g, 0, none⟩)) w.drew :=
        Lib.run_unsafeSliceData_row _ _ _ _ _ _ hc0
      clear hc0
      go_enter Tryz.func20, Tryz.ntmps20
      go_wp2
      go_region_o
      all_goals (go_wp2; go_ret; exact ⟨rfl, Below.drew (Below.refl B w)⟩)
set_option maxHeartbeats 1000000 in
set_option maxRecDepth 100000 in
theorem tl_some {B b : Nat} {w : World} {p r : Value} {l : List UInt8} {g cap : Nat} (_ : B ≤ b) (h0 : l ≠ []) (hbk : w.heap[b]? = some (.cells #[p, .slice (some ⟨g, 0, none⟩) l.length cap, r] 47 (0, 0))) (hown : w.ownsRow B 5 1 (.slice (some ⟨g, 0, none⟩) l.length cap) l.length (bcells l)) (hlen : l.length ≤ 1000000000) :
    Calls Tryz.prog 20 #[.pointer (some ⟨b, 0, none⟩)] w fun e w' => e = .returned (.string (bs l)) ∧ Below B w w' := by
  have hl0 : l.length ≠ 0 := by simpa using h0
  obtain ⟨hBg, hgz⟩ := World.ownsRow.lt hown g rfl
  obtain ⟨cur, fr, hg⟩ := own_type hown rfl
  have hcap : l.length ≤ cap ∧ l.length ≤ cur.size := by
    rcases hown.2 with ⟨e, _⟩ | ⟨g', cap', cur', e, _, hg', h3, h4, h5, h6⟩
    · cases e
    · injection e with e1 e2 e3
      injection e1 with e1
      injection e1 with e1
      subst e1 e3
      rw [hg] at hg'
      injection hg' with hg'
      injection hg' with hg' _ _
      subst hg'
      omega
  have c1 : w.drew.cell? ⟨b, 1, none⟩ = some (.slice (some ⟨g, 0, none⟩) l.length cap) := blk_cell (w1 := w.drew) hbk 1
  have hSD : (Builtin.unsafeSliceData_ #[22] 86 #[.slice (some ⟨g, 0, none⟩) l.length cap]).run Tryz.prog w.drew = .ok (.pointer (some ⟨g, 0, none⟩)) w.drew :=
    Lib.run_unsafeSliceData_row _ _ _ _ _ _ (by omega)
  have hUS : (Builtin.unsafeString_ #[86, 3] 9 #[.pointer (some ⟨g, 0, none⟩), .int .i64 l.length]).run Tryz.prog w.drew = .ok (.string (bs l)) (w.drew.freeze ⟨g, 0, none⟩ l.length) := by
    refine Lib.run_unsafeString_row w.drew 86 3 9 5 Tryz.underlying86 (by kernel_rfl) g cur.size (by have hg' : w.drew.heap[g]? = some (.cells cur 5 fr) := hg; simp [World.shape?, hg']) l h0 hcap.2 (by omega) ?_
    intro j x hx
    exact World.ownsRow.cells hown (g := g) rfl j (.int .u8 x.toNat) (by simp [bcells, bv, hx])
  have mixed : Tryz.prog.follows .mixedOrders = true := by kernel_rfl
  clear hl0 hcap
  go_enter Tryz.func20, Tryz.ntmps20
  go_wp2
  go_region_o
  all_goals (go_wp2; go_ret; exact ⟨rfl, Lib.below_freeze (Below.drew (Below.refl B w)) (p := ⟨g, 0, none⟩) hBg _⟩)
theorem tl_string {B b room : Nat} {l : List UInt8} {w : World} (h : Tl B b l room w) (hlen : l.length ≤ 1000000000) (hBw : B ≤ w.heap.size) :
    Calls Tryz.prog 20 #[.pointer (some ⟨b, 0, none⟩)] w fun e w' => e = .returned (.string (bs l)) ∧ Below B w w' := by
  obtain ⟨p, hB, v, hbk, hown⟩ : ∃ p, TlAt B b p l room w := by rcases h with h | h <;> exact ⟨_, h⟩
  by_cases h0 : l = []
  · subst h0
    have ho := hown
    rcases hown.2 with ⟨rfl, _⟩ | ⟨g, cap, cur, rfl, _, hg, _⟩
    · exact tl_none (g0 := 0) p _ none 0 hBw hbk (.inl ⟨rfl, rfl⟩) rfl
    · exact tl_none (g0 := 0) p _ (some ⟨g, 0, none⟩) cap hBw hbk (.inr ⟨g, cur, rfl, hg⟩) rfl
  · obtain ⟨g, cp, rfl, _, _, _⟩ := hq_some hown (List.length_pos_iff.2 h0)
    exact tl_some hB h0 hbk hown hlen
end Go.Proofs.YtkfhkfagmokjpaaGreatDoor

namespace Go.Proofs.YtkfhkfagmokjpaaGreatDoor
open Go.RowKit
attribute [local go_sem] canOp readsAs readUpon

theorem il_mass_at : ∀ {ts : List Il.In} {k : Nat} (h : k < ts.length), Il.masses (ts.take k) + Il.mass ts[k] ≤ Il.masses ts
  | [], _, h => by simp at h
  | x :: r, 0, _ => by simp [Il.masses]
  | x :: r, k + 1, h => by
    have := il_mass_at (ts := r) (k := k) (by simpa using h)
    simp only [List.take_succ_cons, Il.masses, List.getElem_cons_succ]
    omega
mutual
theorem il_txt_le : ∀ t : Il.In, (Il.txt t).length ≤ Il.mass t
  | .mk k t d ks => by
    have := il_txts_le ks
    simp only [Il.txt, Il.mass, List.length_append]
    have h : (if k = 5 then [(32 : UInt8)] else []).length ≤ 1 := by split <;> simp
    omega
theorem il_txts_le : ∀ ts : List Il.In, (Il.txts ts).length ≤ Il.masses ts
  | [] => by simp [Il.txts, Il.masses]
  | x :: r => by
    have h1 := il_txt_le x
    have h2 := il_txts_le r
    simp only [Il.txts, Il.masses, List.length_append]
    omega
end
theorem il_masses_take {ts : List Il.In} {k : Nat} (h : k < ts.length) : Il.masses (ts.take (k + 1)) = Il.masses (ts.take k) + Il.mass ts[k] := by
  rw [List.take_succ_eq_append_getElem h, Il.masses_snoc]
section
variable {w w' : World} {B b room : Nat} {l : List UInt8}
theorem tl_room (h : Tl B b l room w) : w.cell? ⟨b, 2, none⟩ = some (.int .i64 (room : Int)) ∧ w.frozen? ⟨b, 2, none⟩ = false ∧ b < w.heap.size ∧ B ≤ b := by
  rcases h with ⟨hB, v, hb, _⟩ | ⟨hB, v, hb, _⟩
  · exact ⟨blk_cell hb 2, blk_free hb 2, (Array.getElem?_eq_some_iff.1 hb).1, hB⟩
  · exact ⟨blk_cell hb 2, blk_free hb 2, (Array.getElem?_eq_some_iff.1 hb).1, hB⟩
theorem tl_frz (h : Tl B b l room w) (j : Nat) : w.frozen? ⟨b, j, none⟩ = false := by
  rcases h with ⟨hB, v, hb, _⟩ | ⟨hB, v, hb, _⟩
  · exact blk_free hb j
  · exact blk_free hb j
theorem tl_less (h : Tl B b l room w) (r : Nat) : Tl B b l r (w.setCell ⟨b, 2, none⟩ (.int .i64 (r : Int))) := by
  rcases h with ⟨hB, v, hb, ho⟩ | ⟨hB, v, hb, ho⟩
  · exact .inl ⟨hB, v, heap_setCell_same w b 2 _ _ _ hb, World.ownsRow.kept ho (grown_set w ⟨b, 2, none⟩ _) (.inr (tl_ne hb ho))⟩
  · exact .inr ⟨hB, v, heap_setCell_same w b 2 _ _ _ hb, World.ownsRow.kept ho (grown_set w ⟨b, 2, none⟩ _) (.inr (tl_ne hb ho))⟩
theorem tl_ext (h : Tl B b l room w) (hb : Below w.heap.size w w') : Tl B b l room w' := by
  rcases h with ⟨hB, v, hk, ho⟩ | ⟨hB, v, hk, ho⟩
  · exact .inl ⟨hB, v, (keep hk hb).1, own_below ho hb⟩
  · exact .inr ⟨hB, v, (keep hk hb).1, own_below ho hb⟩
end
/-- what 'tell' does -/
def TellOK (w : World) (B b : Nat) (l : List UInt8) (room : Nat) (ts : List Il.In) (e : Ending) (w' : World) : Prop :=
  e = .returned (.tuple #[]) ∧ ∃ room', room ≤ room' + Il.masses ts ∧ room' ≤ room ∧ Tl B b (l ++ Il.txts ts) room' w' ∧ Below B w w'
set_option maxHeartbeats 16000000 in
set_option maxRecDepth 100000 in
theorem ptell_any : ∀ (N : Nat) (ts : List Il.In) (_ : SizeOf.sizeOf ts ≤ N) (_ : ∀ t ∈ ts, Il.Few t) (_ : ts.length ≤ 1000000000) (A : Option Addr) (c : Nat) (css : List (List Value)) (w : World) (Q : Nat → Prop) (B b : Nat) (l : List UInt8) (room deep : Nat)
    (_ : ∀ b, Q b → b < B) (_ : B ≤ w.heap.size) (_ : RowI w Q 4 A ts.length css.flatten) (_ : ICs w Q ts css) (_ : Tl B b l room w) (_ : deep + Il.masses ts ≤ 65536) (_ : Il.masses ts < room) (_ : room ≤ 2147483647) (_ : l.length + Il.masses ts ≤ 1000000),
    Calls Tryz.prog 19 #[.pointer (some ⟨b, 0, none⟩), .slice A ts.length c, .int .i64 (deep : Int)] w fun e w' => TellOK w B b l room ts e w'
  | 0, ts, hN, _, _, _, _, _, _, _, _, _, _, _, _, _, _, _, _, _, _, _, _, _ => by cases ts <;> simp at hN
  | N + 1, ts, hN, hF, hl, A, c, css, w, Q, B, b, l, room, deep, hQ, hB, hR, hI, hT, hd, hr, hr2, hm => by
    have ih := ptell_any N
    have hR' := Lib.hid hR
    have hI' := Lib.hid hI
    have hT' := Lib.hid hT
    unfold TellOK
    obtain ⟨M, hM⟩ : ∃ M, M = Il.masses ts := ⟨_, rfl⟩
    rw [← hM] at hd hr hm
    replace hM := Lib.hid hM
    have hd1 : ¬ ((65536 : Int) < (deep : Int)) := by omega
    clear hR hI hT
    go_enter Tryz.func19, Tryz.ntmps19
    go_wp2_with fail
    go_loopw [12] (fun u wr => ∃ (k m r : Nat), k ≤ ts.length ∧ u = .int .i64 (k : Int) ∧ Hid (m = Il.masses (ts.take k)) ∧ room ≤ r + m ∧ r ≤ room ∧ Hid (Tl B b (l ++ Il.txts (ts.take k)) r wr) ∧ Hid (Below B w wr)) (fun u _ => ts.length - (intOf u).toNat)
    case atStart => exact ⟨0, 0, room, by omega, rfl, Lib.hid (by simp [Il.masses]), by omega, by omega, Lib.hid (by simpa [Il.txts] using hT'.out), Lib.hid (Below.refl _ _)⟩
    case round =>
      obtain ⟨k, m, r, hk, rfl, hmm, hr3, hr4, hTk, hb⟩ := hrel
      rcases Nat.lt_or_eq_of_le hk with hlt | hke
      · obtain ⟨cs, i1, i2⟩ := ICs_at hI'.out hlt
        obtain ⟨bA, o, rfl, hqb, hcell⟩ := hR'.out.2 (by omega)
        have hstep := Il.txts_take hlt
        have hmst := il_masses_take hlt
        have hmle := il_mass_at hlt
        have hlk := il_txts_le (ts.take k)
        rw [← hmm.out] at hmst hmle hlk
        rw [← hM.out] at hmle
        have hFk := hF ts[k] (List.getElem_mem hlt)
        have hNk : SizeOf.sizeOf ts[k] < N + 1 := by have := List.sizeOf_lt_of_mem (List.getElem_mem hlt); omega
        generalize ts[k] = t at *
        obtain ⟨kd, tx, ds, ks⟩ := t
        obtain ⟨A2, c2, css2, rfl, hc2, hR2, hI2⟩ := IC_form i1
        have hbl := hQ _ hqb
        have hbw := hb.out
        have x0 := (hbw.cell (p := ⟨bA, o + (k * 4 + 0), none⟩) hbl).trans (hcell _ _ (i2 0 (by omega)))
        have x1 := (hbw.cell (p := ⟨bA, o + (k * 4 + 1), none⟩) hbl).trans (hcell _ _ (i2 1 (by omega)))
        have x2 := (hbw.cell (p := ⟨bA, o + (k * 4 + 2), none⟩) hbl).trans (hcell _ _ (i2 2 (by omega)))
        have x3 := (hbw.cell (p := ⟨bA, o + (k * 4 + 3), none⟩) hbl).trans (hcell _ _ (i2 3 (by omega)))
        simp only [← Nat.add_assoc, Nat.add_zero] at x0 x1 x2 x3
        obtain ⟨hF1, hF2, hF3⟩ : kd ≤ 1000 ∧ ks.length ≤ 1000000000 ∧ ∀ x ∈ ks, Il.Few x := by cases hFk with | mk a b c => exact ⟨a, b, c⟩
        simp only [Il.In.mk.sizeOf_spec] at hNk
        simp only [Il.mass] at hmst hmle
        have ht : Il.txt (.mk kd tx ds ks) = (if kd = 5 then [32] else []) ++ tx ++ Il.txts ks := by simp only [Il.txt]
        rw [ht] at hstep
        have hBr := Nat.le_trans hB hbw.size
        obtain ⟨mk, hmk⟩ : ∃ mk, mk = Il.masses ks := ⟨_, rfl⟩
        rw [← hmk] at hmst hmle
        have hcall := fun (w' : World) (hb' : Below B w w') (l' : List UInt8) (r' : Nat) (hT'' : Tl B b l' r' w') (q1 : mk < r') (q2 : r' ≤ 2147483647) (q3 : l'.length + mk ≤ 1000000) => (show Calls Tryz.prog 19 #[.pointer (some ⟨b, 0, none⟩), .slice A2 ks.length c2, .int .i64 ((deep : Int) + 1)] w' (fun e w'' => TellOK w' B b l' r' ks e w'') from by
          have h9 := ih ks (by omega) hF3 hF2 A2 c2 css2 w' Q B b l' r' (deep + 1) hQ (Nat.le_trans hB hb'.size) (hR2.frame (fun b h => hb'.block b (hQ b h)) (fun _ h => h)) (ICs_frame (fun b h => hb'.block b (hQ b h)) (fun _ h => h) hI2) hT'' (by omega) (by omega) q2 (by omega)
          rwa [show ((deep + 1 : Nat) : Int) = (deep : Int) + 1 by omega] at h9)
        unfold TellOK at hcall
        rw [← hmk] at hcall
        replace hcall := Lib.hid hcall
        replace hmk := Lib.hid hmk
        replace hmst := Lib.hid hmst
        replace hstep := Lib.hid hstep
        clear ih hcell i1 i2 hR2 hI2 ht hFk hNk hF3
        have hbr : bA < wr.heap.size := Nat.lt_of_lt_of_le hbl hBr
        obtain ⟨P, hP⟩ : ∃ P, P = l ++ Il.txts (ts.take k) := ⟨_, rfl⟩
        have hPl : P.length ≤ l.length + m := by rw [hP, List.length_append]; omega
        rw [← hP] at hTk
        replace hP := Lib.hid hP
        obtain ⟨r2, hr5⟩ : ∃ r2, r2 = r - (1 + tx.length) := ⟨_, rfl⟩
        have hsub : (r : Int) - (1 + (tx.length : Int)) = (r2 : Int) := by omega
        have hr6 : r2 + (1 + tx.length) = r := by omega
        have hz1 := bs_size tx
        have hw1 : IntKind.i64.wrap (1 + (tx.length : Int)) = 1 + (tx.length : Int) := by rw [IntKind.wrap_i64]; omega
        have hw2 : IntKind.i64.wrap ((r : Int) - (1 + (tx.length : Int))) = (r2 : Int) := by rw [IntKind.wrap_i64]; omega
        have hw3 : IntKind.i64.wrap (r2 : Int) = (r2 : Int) := by rw [IntKind.wrap_i64]; omega
        clear hr5 hlk
        go_upto_region 4 with fail
        generalize hw4 : World.alloc wr _ = w4
        have hb4 : Below wr.heap.size wr w4 := by rw [← hw4]; exact ext_alloc _ _
        obtain ⟨gx, hgx⟩ : ∃ gx, gx = wr.heap.size := ⟨_, rfl⟩
        have hg4 : w4.heap[gx]? = some (.cells #[.int .i64 (kd : Int), .string (bs tx), .string (bs ds), .slice A2 ks.length c2] 41 (0, 0)) := by rw [← hw4, hgx]; exact heap_alloc_new _ _
        have y0 : w4.cell? ⟨gx, 0, none⟩ = some (.int .i64 (kd : Int)) := blk_cell hg4 0
        have y1 : w4.cell? ⟨gx, 1, none⟩ = some (.string (bs tx)) := blk_cell hg4 1
        have y3 : w4.cell? ⟨gx, 3, none⟩ = some (.slice A2 ks.length c2) := blk_cell hg4 3
        have hT4 := tl_ext hTk.out hb4
        obtain ⟨rc, rf, rb, rB⟩ := tl_room hT4
        have hgb : gx ≠ b := by have := (tl_room hTk.out).2.2.1; omega
        have hgb' := Ne.symm hgb
        have hb5 := Lib.hid (hbw.trans (hb4.mono hBr))
        have hB4 := Nat.le_trans hBr hb4.size
        rw [← hgx]
        clear hw4 hgx hb4 hbr
        replace hT4 := Lib.hid hT4
        replace hg4 := Lib.hid hg4
        have hle : ¬ ((r : Int) ≤ (tx.length : Int)) := by omega
        go_upto_region 5 with (go_quiet (fail))
        refine wp_region_tree (.rd 0 (.rd 1 (.rd 2 (.rd 4 (.rd 5 (.rd 6 (.rd 7 (.mk 3 (.rd 8 (.rd 9 (.rd 10 (.mk 11 .fin)))))))))))) (fun u : World => u.heap[gx]? = some (.cells #[.int .i64 (kd : Int), .string (bs tx), .string (bs ds), .slice A2 ks.length c2] 41 (0, 0))) hg4.out (by kernel_rfl) (by kernel_rfl) (by kernel_rfl) (fun _ _ d _ _ h => by cases d <;> exact h) ?_
        (first | refine wpT_move rfl ?_ | (refine wpT_rd rfl ?_; intro K hK; go_simp; refine hK _ _ _ ?_; clear hK K))
        (first | refine wpT_move rfl ?_ | (refine wpT_rd rfl ?_; intro K hK; go_simp; refine hK _ _ _ ?_; clear hK K))
        (first | refine wpT_move rfl ?_ | (refine wpT_rd rfl ?_; intro K hK; go_simp; refine hK _ _ _ ?_; clear hK K))
        (first | refine wpT_move rfl ?_ | (refine wpT_rd rfl ?_; intro K hK; go_simp; refine hK _ _ _ ?_; clear hK K))
        refine wpT_read (.string (bs tx)) rfl rfl hg4.out (fun u hu => by have u1 : u.cell? ⟨gx, 1, none⟩ = some (.string (bs tx)) := blk_cell hu 1; go_simp) ?_
        (first | refine wpT_move rfl ?_ | (refine wpT_rd rfl ?_; intro K hK; go_simp; refine hK _ _ _ ?_; clear hK K))
        refine wpT_read (.int .i64 (1 + (tx.length : Int))) rfl rfl hg4.out (fun u _ => by go_simp <;> first | exact hw1 | rw [hw1]) ?_
        refine wpT_mk rfl ?_
        intro K hK
        go_simp
        refine ⟨_, hg4.out, fun _ h => h, hK _ _ _ ?_⟩
        clear hK K
        refine wpT_read (.int .i64 (r2 : Int)) rfl rfl hg4.out (fun u _ => by go_simp <;> first | exact hw3 | exact hw2 | rw [hw2]) ?_
        (first | refine wpT_move rfl ?_ | (refine wpT_rd rfl ?_; intro K hK; go_simp; refine hK _ _ _ ?_; clear hK K))
        (first | refine wpT_move rfl ?_ | (refine wpT_rd rfl ?_; intro K hK; go_simp; refine hK _ _ _ ?_; clear hK K))
        have hg5 : (w4.drew.setCell ⟨b, 2, none⟩ (.int .i64 (r2 : Int))).heap[gx]? = some (.cells #[.int .i64 (kd : Int), .string (bs tx), .string (bs ds), .slice A2 ks.length c2] 41 (0, 0)) := (heap_setCell_other w4.drew ⟨b, 2, none⟩ gx _ hgb).trans hg4.out
        refine wpT_store rfl rfl (exec_store_int (y := (r2 : Int)) rfl (by kernel_rfl) rfl rfl rc (fun j => tl_frz hT4.out j)) hg5 ?_
        refine wpT_fin ?_
        have hT5 := tl_less (tl_ext hT4.out (ext_drew w4)) r2
        have hb6 : Below B w (w4.drew.setCell ⟨b, 2, none⟩ (.int .i64 (r2 : Int))) := (hb5.out.drew).setCell (p := ⟨b, 2, none⟩) rB _
        have hB5 := Nat.le_trans hB hb6.size
        clear rc rf rb hT4 hg4 y0 y1 y3 hB4 hb5 hTk hle hsub hw1 hw2 hw3
        generalize hW5 : World.setCell (World.drewN _ _) _ _ = W5
        replace hg5 : W5.heap[gx]? = some (.cells #[.int .i64 (kd : Int), .string (bs tx), .string (bs ds), .slice A2 ks.length c2] 41 (0, 0)) := by rw [← hW5]; exact hg5
        replace hT5 : Tl B b P r2 W5 := by rw [← hW5]; exact hT5
        replace hb6 : Below B w W5 := by rw [← hW5]; exact ⟨hb6.os, hb6.tape, hb6.output, hb6.size, hb6.block⟩
        replace hB5 : B ≤ W5.heap.size := by rw [← hW5]; exact hB5
        clear hW5
        have y0 : W5.cell? ⟨gx, 0, none⟩ = some (.int .i64 (kd : Int)) := blk_cell hg5 0
        have hrest : ∀ (P1 : List UInt8) (W6 : World), P1.length ≤ P.length + 1 → W6.heap[gx]? = some (.cells #[.int .i64 (kd : Int), .string (bs tx), .string (bs ds), .slice A2 ks.length c2] 41 (0, 0)) → Tl B b P1 r2 W6 → Below B w W6 →
            Calls Tryz.prog 35 #[.pointer (some ⟨b, 0, none⟩), .string (bs tx)] W6 fun e w7 => (∃ v, e = .returned v) ∧ (Tl B b (P1 ++ tx) r2 w7 ∧ Below B w w7 ∧ w7.cell? ⟨gx, 1, none⟩ = some (.string (bs tx)) ∧ w7.cell? ⟨gx, 3, none⟩ = some (.slice A2 ks.length c2)) := fun P1 W6 q1 q2 q3 q4 => (tl_str q3 tx (by omega) (Nat.le_trans hB q4.size)).mono (by
              rintro e w7 ⟨q5, q6, q7, q8⟩
              have q9 := q8 gx _ q2 (fun e => hgb (Option.some.inj e)) (by intro c fz e; injection e with _ e _; exact absurd e (by decide))
              exact ⟨q5, q6, q4.trans q7, blk_cell q9 1, blk_cell q9 3⟩)
        replace hrest := Lib.hid hrest
        replace hb6 := Lib.hid hb6
        by_cases h5 : kd = 5
        · have t5 : ((kd : Int) == 5) = true := by simp [h5]
          replace hstep := Lib.hid (by have h9 := hstep.out; rw [h5, if_pos rfl] at h9; exact h9)
          clear h5
          go_wp2_with fail
          refine (tl_byte hT5 32 rfl (by omega) hB5).mono ?_
          rintro e w6 ⟨rfl, hT6, hb7, hk6⟩
          have hg6 := hk6 gx _ hg5 (fun e => hgb (Option.some.inj e)) (by intro c fz e; injection e with _ e _; exact absurd e (by decide))
          have y1 : w6.cell? ⟨gx, 1, none⟩ = some (.string (bs tx)) := blk_cell hg6 1
          have hst := Lib.hid (hrest.out (P ++ [32]) w6.drew (by simp) hg6 (tl_ext hT6 (ext_drew w6)) (hb6.out.trans hb7).drew)
          have hB6 := Nat.le_trans hB5 hb7.size
          clear hT6 hT5 hk6 hb7 hrest y0
          go_upto_region 8 with fail
          refine wp_region_tree (.rd 0 (.rd 1 (.rd 2 (.rd 3 (.rd 4 (.mk 5 .fin)))))) (fun u : World => u.cell? ⟨gx, 1, none⟩ = some (.string (bs tx))) y1 (by kernel_rfl) (by kernel_rfl) (by kernel_rfl) (fun _ _ d _ _ h => by cases d <;> exact h) ?_
          (first | refine wpT_move rfl ?_ | (refine wpT_rd rfl ?_; intro K hK; go_simp; refine hK _ _ _ ?_; clear hK K))
          (first | refine wpT_move rfl ?_ | (refine wpT_rd rfl ?_; intro K hK; go_simp; refine hK _ _ _ ?_; clear hK K))
          (first | refine wpT_move rfl ?_ | (refine wpT_rd rfl ?_; intro K hK; go_simp; refine hK _ _ _ ?_; clear hK K))
          (first | refine wpT_move rfl ?_ | (refine wpT_rd rfl ?_; intro K hK; go_simp; refine hK _ _ _ ?_; clear hK K))
          refine wpT_read (.string (bs tx)) rfl rfl y1 (fun u hu => by have u1 := hu; go_simp) ?_
          refine wpT_mk rfl ?_
          intro K hK
          go_simp
          refine hst.out.mono ?_
          rintro e w7 ⟨⟨v7, rfl⟩, hT7, hb7, y1', y3⟩
          refine ⟨_, y1', fun _ h => h, hK _ _ _ ?_⟩
          clear hK K
          refine wpT_fin ?_
          have hc7 := Lib.hid (hcall.out w7 hb7 (P ++ [32] ++ tx) r2 hT7 (by omega) (by omega) (by simp only [List.length_append, List.length_singleton]; omega))
          have hb7' := Lib.hid hb7
          clear hT7 hb7 y1 y1' hcall hst
          go_wp2_with fail
          refine hc7.out.mono ?_
          rintro e w9 ⟨rfl, r3, q1, q2, hT9, hb9⟩
          have hT10 : Hid (Tl B b (l ++ Il.txts (ts.take (k + 1))) r3 w9) := Lib.hid (by
            have h9 := hstep.out
            have h8 := hP.out
            rw [h9, ← List.append_assoc, ← h8]
            simpa [List.append_assoc] using hT9)
          have hb10 := Lib.hid (hb7'.out.trans hb9)
          clear hT9 hb9 hc7
          go_wp2_with fail
          go_roundw
          case rel => exact ⟨k + 1, m + (tx.length + ds.length + 1 + mk), r3, by omega, by go_num, Lib.hid (by rw [hmst.out]), by omega, by omega, hT10, hb10⟩
          case measure => simp [intOf]; omega
        · have t5 : ((kd : Int) == 5) = false := by simp; omega
          replace hstep := Lib.hid (by have h9 := hstep.out; rw [if_neg h5] at h9; exact h9)
          clear h5
          have y1 : W5.cell? ⟨gx, 1, none⟩ = some (.string (bs tx)) := blk_cell hg5 1
          have hst := Lib.hid (hrest.out P W5.drew (by omega) hg5 (tl_ext hT5 (ext_drew W5)) hb6.out.drew)
          clear hrest
          go_upto_region 8 with fail
          refine wp_region_tree (.rd 0 (.rd 1 (.rd 2 (.rd 3 (.rd 4 (.mk 5 .fin)))))) (fun u : World => u.cell? ⟨gx, 1, none⟩ = some (.string (bs tx))) y1 (by kernel_rfl) (by kernel_rfl) (by kernel_rfl) (fun _ _ d _ _ h => by cases d <;> exact h) ?_
          (first | refine wpT_move rfl ?_ | (refine wpT_rd rfl ?_; intro K hK; go_simp; refine hK _ _ _ ?_; clear hK K))
          (first | refine wpT_move rfl ?_ | (refine wpT_rd rfl ?_; intro K hK; go_simp; refine hK _ _ _ ?_; clear hK K))
          (first | refine wpT_move rfl ?_ | (refine wpT_rd rfl ?_; intro K hK; go_simp; refine hK _ _ _ ?_; clear hK K))
          (first | refine wpT_move rfl ?_ | (refine wpT_rd rfl ?_; intro K hK; go_simp; refine hK _ _ _ ?_; clear hK K))
          refine wpT_read (.string (bs tx)) rfl rfl y1 (fun u hu => by have u1 := hu; go_simp) ?_
          refine wpT_mk rfl ?_
          intro K hK
          go_simp
          refine hst.out.mono ?_
          rintro e w7 ⟨⟨v7, rfl⟩, hT7, hb7, y1', y3⟩
          refine ⟨_, y1', fun _ h => h, hK _ _ _ ?_⟩
          clear hK K
          refine wpT_fin ?_
          have hc7 := Lib.hid (hcall.out w7 hb7 (P ++ tx) r2 hT7 (by omega) (by omega) (by simp only [List.length_append]; omega))
          have hb7' := Lib.hid hb7
          clear hT7 hb7 y1 y1' hcall hst
          go_wp2_with fail
          refine hc7.out.mono ?_
          rintro e w9 ⟨rfl, r3, q1, q2, hT9, hb9⟩
          have hT10 : Hid (Tl B b (l ++ Il.txts (ts.take (k + 1))) r3 w9) := Lib.hid (by
            have h9 := hstep.out
            have h8 := hP.out
            rw [h9, ← List.append_assoc, ← h8]
            simpa [List.append_assoc] using hT9)
          have hb10 := Lib.hid (hb7'.out.trans hb9)
          clear hT9 hb9 hc7
          go_wp2_with fail
          go_roundw
          case rel => exact ⟨k + 1, m + (tx.length + ds.length + 1 + mk), r3, by omega, by go_num, Lib.hid (by rw [hmst.out]), by omega, by omega, hT10, hb10⟩
          case measure => simp [intOf]; omega
      · subst hke
        have hTf : Tl B b (l ++ Il.txts ts) r wr := by have := hTk.out; rwa [List.take_length] at this
        have hmf : room ≤ r + Il.masses ts := by have := hmm.out; rw [List.take_length] at this; omega
        replace hTf := Lib.hid hTf
        replace hmf := Lib.hid hmf
        go_wp2_with fail
        go_end0
        exact ⟨rfl, r, hmf.out, hr4, hTf.out, hb.out⟩

set_option maxHeartbeats 4000000 in
set_option maxRecDepth 100000 in
theorem ptext_any : PText := by
  intro ts hm hF hl hx A c css w Q hQ hR hI
  obtain ⟨W, hW⟩ : ∃ W, W = w.alloc (.cells #[.pointer none, .slice none 0 0, .int .i64 2147483647] 47) := ⟨_, rfl⟩
  have hb0 : Below w.heap.size w W := by rw [hW]; exact ext_alloc _ _
  have hT0 : Tl w.heap.size w.heap.size [] 2147483647 W := .inl ⟨Nat.le_refl _, _, by rw [hW]; exact heap_alloc_new _ _, World.ownsRow_nil _ _ _ _⟩
  have htell := ptell_any _ ts (Nat.le_refl _) hF hl A c css W Q w.heap.size w.heap.size [] 2147483647 1 hQ hb0.size (hR.frame (fun b h => hb0.block b (hQ b h)) (fun _ h => h)) (ICs_frame (fun b h => hb0.block b (hQ b h)) (fun _ h => h) hI) hT0 (by omega) (by omega) (by omega) (by simp; omega)
  have hxl := il_txts_le ts
  unfold TellOK at htell
  rw [List.nil_append] at htell
  obtain ⟨X, hX⟩ : ∃ X, X = Il.txts ts := ⟨_, rfl⟩
  rw [← hX] at htell hxl ⊢
  obtain ⟨b, hbb⟩ : ∃ b, b = w.heap.size := ⟨_, rfl⟩
  replace htell := Lib.hid htell
  replace hb0 := Lib.hid hb0
  clear hX hx hT0 hR hI hQ hF
  go_enter Tryz.func13, Tryz.ntmps13
  go_upto_region 2 with fail
  rw [← hW]
  clear hW
  go_wp2_with fail
  refine htell.out.mono ?_
  rintro e w2 ⟨rfl, r, _, _, hT2, hb2⟩
  have hB2 := Nat.le_trans hb0.out.size hb2.size
  have hstr := Lib.hid (tl_string hT2 (by omega) hB2)
  replace hb2 := Lib.hid hb2
  clear hT2 htell
  go_wp2_with fail
  refine hstr.out.mono ?_
  rintro e w3 ⟨rfl, hb3⟩
  have hb := Lib.hid ((hb0.out.trans hb2.out).trans hb3)
  clear hb3
  go_wp2_with fail
  go_ret
  exact ⟨rfl, hb.out⟩
end Go.Proofs.YtkfhkfagmokjpaaGreatDoor
