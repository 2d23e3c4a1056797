/- Package inline: the last row has an inline more, a text more; code is read. Package inline: code is read, or the signs that begin none. Package inline's reader in memory: a run more, a row more. Package inline: a run of signs is read. Package inline: a run of signs is read: it is a run more, and a row more. -/
import Derived.Test.YtkfhkfagmokjpaaGreatDoorMp25
import Derived.Test.YtkfhkfagmokjpaaGreatDoorMp06
import Derived.Test.YtkfhkfagmokjpaaGreatDoorMp20
namespace Go.Proofs.YtkfhkfagmokjpaaGreatDoor
open Go.RowKit Go.Maps
attribute [local go_sem] canOp readsAs readUpon

section
variable {w w' : World} {B bR : Nat} {s : List UInt8} {link : Bool} {st : Il.Sc} {gm nm : Nat} {D : DataW Unit} {vr vF : Value} {rs : List Il.Rw} {V : List V3} {i mk : Nat}
theorem RD.drew (h : RD w B bR s link st gm nm D vr vF rs V) : RD w.drew B bR s link st gm nm D vr vF rs V := ⟨h.rw.along h.rw.hp.drewT, h.rel, h.ends⟩
/-- the last row says a text more -/
theorem rd_say (h : RD w B bR s link st gm nm D vr vF rs V) (hB : B ≤ w.heap.size) (l : List UInt8) (hv : Il.V8 l) (hl : l.length ≤ 1000000000) (hw : Il.wts rs ≤ 64000000) {g c : Nat} (hvF : vF = .slice (some ⟨g, 0, none⟩) rs.length c) :
    Calls Tryz.prog 62 #[.pointer (some ⟨g, (rs.length - 1) * 2, none⟩), .string (bs l)] w fun e w' => e = .returned (.tuple #[]) ∧ ∃ V', RD w' B bR s link ⟨Il.pput st.l l, st.runs⟩ gm nm D vr vF (Il.lastI (fun R => R.say l) rs) V' ∧ Below B w w' := by
  have hp := List.length_pos_iff.2 h.ne
  obtain ⟨R, hR1, hR2⟩ := lastI_at h.ne
  have hwm := Il.wts_mem (List.mem_of_getElem? hR1)
  obtain ⟨x1, y1, z1, e1, q1, i1⟩ := h.rw.look ⟨by decide, by decide, by decide⟩ hR1
  have hc1 := h.rw.cn (i := rs.length - 1) hvF (by omega)
  have hcall := psay_any (ksAt_ok ⟨by decide, by decide, by decide⟩ (rs.length - 1)) hc1 q1 hB l (by unfold Il.Rw.wt at hwm; omega)
  rw [Il.v8_runes hv] at hcall
  refine hcall.mono ?_
  rintro e w' ⟨rfl, vp', t⟩
  exact ⟨rfl, _, (h.last hR1 (fun R => R.say l) (Il.rel_say h.rel hv) rfl (hR2 _) e1 t (t.kids i1))⟩
/-- the last row has an inline more -/
theorem rd_put (h : RD w B bR s link st gm nm D vr vF rs V) (hB : B ≤ w.heap.size) (kd : Nat) (hk : kd ≠ 0) (t d : List UInt8) (ks : List Il.In) (AK : Option Addr) (cK : Nat) (hw : Il.wts rs ≤ 64000000) {g c : Nat} (hvF : vF = .slice (some ⟨g, 0, none⟩) rs.length c)
    (hx : IC w (Fr w B (rowsF (rdM bR gm nm s link D vr vF st.runs) 3 4 5 vF rs V)) (.mk kd t d ks) [.int .i64 (kd : Int), .string (bs t), .string (bs d), .slice AK ks.length cK]) :
    Calls Tryz.prog 41 #[.pointer (some ⟨g, (rs.length - 1) * 2, none⟩), .agg #[.int .i64 (kd : Int), .string (bs t), .string (bs d), .slice AK ks.length cK]] w fun e w' => e = .returned (.tuple #[]) ∧ ∃ V', RD w' B bR s link ⟨st.l ++ [⟨.mk kd t d ks, none, 0, 0⟩], st.runs⟩ gm nm D vr vF (Il.lastI (fun R => R.put (.mk kd t d ks)) rs) V' ∧ Below B w w' := by
  have hp := List.length_pos_iff.2 h.ne
  obtain ⟨R, hR1, hR2⟩ := lastI_at h.ne
  have hwm := Il.wts_mem (List.mem_of_getElem? hR1)
  obtain ⟨x1, y1, z1, e1, q1, i1⟩ := h.rw.look ⟨by decide, by decide, by decide⟩ hR1
  have hc1 := h.rw.cn (i := rs.length - 1) hvF (by omega)
  refine (pput_any (ksAt_ok ⟨by decide, by decide, by decide⟩ (rs.length - 1)) hc1 q1 i1 hB (by unfold Il.Rw.wt at hwm; omega) (by unfold Il.Rw.wt at hwm; omega) kd t d ks AK cK (by rw [e1]; exact hx)).mono ?_
  rintro e w' ⟨rfl, vi', vp', css', t, hI⟩
  exact ⟨rfl, _, (h.last hR1 (fun R => R.put (.mk kd _ _ ks)) (Il.rel_put h.rel hk _ _ ks) rfl (hR2 _) e1 t hI)⟩
theorem ic_leaf (w : World) (Q : Nat → Prop) (kd : Nat) (t d : List UInt8) : IC w Q (.mk kd t d []) [.int .i64 (kd : Int), .string (bs t), .string (bs d), .slice none ([] : List Il.In).length 0] := by
  unfold IC
  exact ⟨none, 0, [], rfl, Nat.le_refl _, ⟨rfl, fun h => absurd h (by simp)⟩, rfl⟩
/-- the last row's own pointer, and what is said or put there, behind a call that kept all -/
theorem RD.lastp (h : RD w B bR s link st gm nm D vr vF rs V) (hl : rs.length ≤ 1000000000) : ∃ g c, vF = .slice (some ⟨g, 0, none⟩) rs.length c ∧ ∀ u : World, Calls Tryz.prog 40 #[vF] u fun e u' => e = .returned (.pointer (some ⟨g, (rs.length - 1) * 2, none⟩)) ∧ u' = u := by
  have hp := List.length_pos_iff.2 h.ne
  obtain ⟨g, c, hv, _, _, _⟩ := h.rw.slice hp
  exact ⟨g, c, hv, fun u => by rw [hv]; exact plast_any g rs.length c hp (by omega) u⟩
theorem wts_put (rs : List Il.Rw) (x : Il.In) : Il.wts (Il.lastI (fun R => R.put x) rs) ≤ Il.wts rs + (2 + Il.tlen x) := Il.wts_lastI (f := fun R => R.put x) (fun R => by have := R.wt_put x; omega) rs
theorem wts_say (rs : List Il.Rw) (l : List UInt8) : Il.wts (Il.lastI (fun R => R.say l) rs) ≤ Il.wts rs + l.length := Il.wts_lastI (f := fun R => R.say l) (fun R => by rw [Il.Rw.wt_say]; exact Nat.le_refl _) rs
set_option maxHeartbeats 8000000 in
set_option maxRecDepth 100000 in
theorem rd_codeY (h : RdOK w B bR s link st i mk) (ok : Il.ScOK st i) (hi : i < s.length) (hs : s.length ≤ 4000000) {t : List UInt8} {n : Nat} (hc : Cd.span s (i : Int) = some (t, n)) (hn : i < n) (ht : t.length ≤ n - i) :
    Calls Tryz.prog 36 #[.pointer (some ⟨bR, 0, none⟩), .int .i64 (i : Int)] w fun e w' => e = .returned (.int .i64 (n : Int)) ∧
      RdOK w' B bR s link ⟨st.l ++ [⟨.mk 1 t [] [], none, 0, 0⟩], st.runs⟩ n mk ∧ Below B w w' := by
  obtain ⟨hB, gm, nm, D, vr, vF, rs, V, hR, hw, hnm⟩ := h
  have hl1 := RdOK.runs_le ok (by omega) hs hR
  have hspan := Lib.hid (cspan_any s (i : Int) (by omega) w)
  rw [hc] at hspan
  unfold spanV at hspan
  obtain ⟨f0, f1, f2, f3, f4, f5, f6⟩ := hR.cells
  obtain ⟨g, c, hv, hlast⟩ := hR.lastp (by omega)
  replace hlast := Lib.hid hlast
  have hput := Lib.hid (fun (w1 : World) (hb : Below w.heap.size w w1) => rd_put (hR.ext hB hb) (Nat.le_trans hB hb.size) 1 (by decide) t [] [] none 0 (by omega) hv (ic_leaf _ _ _ _ _))
  have hcl := Lib.hid (fun (w1 : World) (hb : Below w.heap.size w w1) => (hR.ext hB hb).cells)
  have hwl := Lib.hid (wts_put rs (.mk 1 t [] []))
  have hbs : bs [] = ⟨#[]⟩ := rfl
  replace hv := Lib.hid hv
  clear hR
  go_enter Tryz.func36, Tryz.ntmps36
  go_wp2_with fail
  refine hspan.out.mono ?_
  rintro e w1 ⟨rfl, hb1⟩
  have hb1h := Lib.hid hb1
  obtain ⟨c0, c1, c2, c3, c4, c5, c6⟩ := hcl.out w1 hb1
  have hput1 := Lib.hid (hput.out w1 hb1)
  clear f0 f1 f2 f3 f4 f5 f6 hput hcl hspan hb1
  go_wp2_with fail
  refine (hlast.out _).mono ?_
  rintro e w2 ⟨rfl, rfl⟩
  go_wp2_with fail
  refine hput1.out.mono ?_
  rintro e w3 ⟨rfl, V', hR3, hb3⟩
  have hb := Lib.hid ((hb1h.out.mono hB).trans hb3)
  replace hR3 := Lib.hid hR3
  clear c0 c1 c2 c3 c4 c5 c6 hb3
  go_wp2
  go_ret
  exact ⟨rfl, ⟨Nat.le_trans hB hb.out.size, gm, nm, D, vr, _, _, V', hR3.out, by have := hwl.out; simp only [Il.tlen] at this; omega, by omega⟩, hb.out⟩
end
end Go.Proofs.YtkfhkfagmokjpaaGreatDoor

namespace Go.Proofs.YtkfhkfagmokjpaaGreatDoor
open Go.RowKit Go.Maps
attribute [local go_sem] canOp readsAs readUpon

theorem take_run (c : UInt8) : ∀ l : List UInt8, l.take (Fn.run c l) = List.replicate (Fn.run c l) c
  | [] => rfl
  | b :: r => by
    by_cases h : b = c
    · rw [Fn.run_go r h, List.take_succ_cons, take_run c r, h]; rfl
    · rw [Fn.run_stop r h]; rfl
theorem mid_run (c : UInt8) (s : List UInt8) (i : Nat) : mid s i (i + Fn.run c (s.drop i)) = List.replicate (Fn.run c (s.drop i)) c := by
  unfold mid; rw [Nat.add_sub_cancel_left]; exact take_run c _
section
variable {w w' : World} {B bR : Nat} {s : List UInt8} {link : Bool} {st : Il.Sc} {gm nm : Nat} {D : DataW Unit} {vr vF : Value} {rs : List Il.Rw} {V : List V3} {i mk : Nat}
set_option maxHeartbeats 8000000 in
set_option maxRecDepth 100000 in
theorem rd_codeN (h : RdOK w B bR s link st i mk) (ok : Il.ScOK st i) (hi : i < s.length) (hs : s.length ≤ 4000000) (hc : Cd.span s (i : Int) = none) (h96 : s[i] = 96) :
    Calls Tryz.prog 36 #[.pointer (some ⟨bR, 0, none⟩), .int .i64 (i : Int)] w fun e w' => e = .returned (.int .i64 ((i + Fn.run 96 (s.drop i) : Nat) : Int)) ∧
      RdOK w' B bR s link ⟨Il.pput st.l (mid s i (i + Fn.run 96 (s.drop i))), st.runs⟩ (i + Fn.run 96 (s.drop i)) mk ∧ Below B w w' := by
  obtain ⟨hB, gm, nm, D, vr, vF, rs, V, hR, hw, hnm⟩ := h
  have hl1 := RdOK.runs_le ok (by omega) hs hR
  have hspan := Lib.hid (cspan_any s (i : Int) (by omega) w)
  rw [hc] at hspan
  unfold spanV at hspan
  have hpos : 1 ≤ Fn.run 96 (s.drop i) := by rw [Fn.run_at hi h96]; omega
  have hle : i + Fn.run 96 (s.drop i) ≤ s.length := by have := Fn.run_le 96 (s.drop i); rw [List.length_drop] at this; omega
  have hmr := mid_run 96 s i
  have q2 := Lib.hid (fun w => crun_all s (i : Int) 96 w (by omega))
  rw [runV_at] at q2
  obtain ⟨n, hn⟩ : ∃ n, n = Fn.run 96 (s.drop i) := ⟨_, rfl⟩
  rw [← hn] at q2 hpos hle hmr ⊢
  clear hn
  have hadd : ((i : Int) + (n : Int)) = ((i + n : Nat) : Int) := by omega
  have hmid : ∀ w : World, (Instr.slice 9 (.string (bs s)) (some (.int .i64 (i : Int))) (some (.int .i64 ((i : Int) + (n : Int)))) none).run Tryz.prog w = .ok (.string (bs (mid s i (i + n)))) w := by
    intro w
    rw [hadd]
    exact run_mid (S := s) (i := i) (j := i + n) (by omega) (by omega) w
  replace hadd := Lib.hid hadd
  obtain ⟨T, hT⟩ : ∃ T, T = mid s i (i + n) := ⟨_, rfl⟩
  rw [← hT] at hmr hmid ⊢
  have hTl : T.length = n := by rw [hmr]; simp
  have hTv : Il.V8 T := by rw [hmr]; exact Il.v8_low (by decide) n
  clear hT hmr
  obtain ⟨f0, f1, f2, f3, f4, f5, f6⟩ := hR.cells
  obtain ⟨g, c, hv, hlast⟩ := hR.lastp (by omega)
  replace hlast := Lib.hid hlast
  have hblk := Lib.hid (fun (w1 : World) (hb : Below w.heap.size w w1) => (hR.ext hB hb).blk.1)
  have hsay := Lib.hid (fun (w1 : World) (hb : Below w.heap.size w w1) => rd_say (hR.ext hB hb).drew (Nat.le_trans hB hb.size) T hTv (by omega) (by omega) hv)
  have hcl := Lib.hid (fun (w1 : World) (hb : Below w.heap.size w w1) => (hR.ext hB hb).cells)
  have hwl := Lib.hid (wts_say rs T)
  replace hv := Lib.hid hv
  replace hTv := Lib.hid hTv
  clear hR
  go_enter Tryz.func36, Tryz.ntmps36
  go_wp2_with fail
  refine hspan.out.mono ?_
  rintro e w1 ⟨rfl, hb1⟩
  have hb1h := Lib.hid hb1
  obtain ⟨c0, c1, c2, c3, c4, c5, c6⟩ := hcl.out w1 hb1
  have hsay1 := Lib.hid (hsay.out w1 hb1)
  have hS : (fun u : World => u.heap[bR]? = some (.cells (rdC s link gm vr vF) 59 (0, 0))) w1.drew := hblk.out w1 hb1
  clear f0 f1 f2 f3 f4 f5 f6 hsay hcl hspan hb1 hblk
  go_upto_region 6 with (go_at_call 61; refine (q2.out _).mono ?_; rintro e1 w2 ⟨rfl, rfl⟩)
  refine wp_region_tree (.rd 0 (.rd 1 (.rd 2 (.rd 3 (.rd 5 (.rd 6 (.rd 7 (.rd 8 (.rd 9 (.rd 10 (.rd 11 (.mk 4 (.mk 12 .fin))))))))))))) (fun u : World => u.heap[bR]? = some (.cells (rdC s link gm vr vF) 59 (0, 0))) hS (by kernel_rfl) (by kernel_rfl) (by kernel_rfl) (fun _ _ d _ _ h => by cases d <;> exact h) ?_
  iterate 3 (first | refine wpT_move rfl ?_ | (refine wpT_rd rfl ?_; intro K hK; go_simp; refine hK _ _ _ ?_; clear hK K))
  refine wpT_read vF rfl rfl hS (fun u hu => by
    have h1 : u.cell? ⟨bR, 5, none⟩ = some vF := blk_cell (j := 5) hu
    go_simp) ?_
  iterate 3 (first | refine wpT_move rfl ?_ | (refine wpT_rd rfl ?_; intro K hK; go_simp; refine hK _ _ _ ?_; clear hK K))
  refine wpT_read (.string (bs s)) rfl rfl hS (fun u hu => by
    have h1 : u.cell? ⟨bR, 0, none⟩ = some (.string (bs s)) := blk_cell (j := 0) hu
    go_simp) ?_
  iterate 3 (first | refine wpT_move rfl ?_ | (refine wpT_rd rfl ?_; intro K hK; go_simp; refine hK _ _ _ ?_; clear hK K))
  refine wpT_mk rfl ?_
  intro K hK
  go_simp
  refine (hlast.out _).mono ?_
  rintro e w2 ⟨rfl, rfl⟩
  refine ⟨_, hS, fun _ h => h, hK _ _ _ ?_⟩
  clear hK K
  refine wpT_mk rfl ?_
  intro K hK
  go_simp
  refine hsay1.out.mono ?_
  rintro e w3 ⟨rfl, V', hR3, hb3⟩
  have hS3 : (fun u : World => u.heap[bR]? = some (.cells (rdC s link gm vr vF) 59 (0, 0))) w3 := hR3.blk.1
  refine ⟨_, hS3, fun _ h => h, hK _ _ _ ?_⟩
  have hdr : Below B w1 w1.drew := ⟨rfl, rfl, rfl, Nat.le_refl _, fun _ _ => rfl⟩
  have hb := Lib.hid (((hb1h.out.mono hB).trans hdr).trans hb3)
  clear hdr
  replace hR3 := Lib.hid hR3
  clear hK K hS3 hS hb3 c0 c1 c2 c3 c4 c5 c6
  refine wpT_fin ?_
  go_wp2
  go_ret
  exact ⟨by rw [hadd.out]; rfl, ⟨Nat.le_trans hB hb.out.size, gm, nm, D, vr, _, _, V', hR3.out, by have := hwl.out; omega, by omega⟩, hb.out⟩
end
end Go.Proofs.YtkfhkfagmokjpaaGreatDoor

namespace Go.Proofs.YtkfhkfagmokjpaaGreatDoor
open Go.RowKit Go.Maps

/-- the reader's parts, what its block tells of them beside them -/
def rdM2 (bR gm nm : Nat) (s : List UInt8) (link : Bool) (D : DataW Unit) (cr cF vr : Value) (runs : List Em.R) : Ky → Option Pa := fun q =>
  if q = (0, 0) then some (.blk bR (rdC s link gm cr cF) 59)
  else if q = (1, 0) then some (.row 96 4 vr runs.length (acells runs))
  else if q = (2, 0) then some (.map gm nm D) else none
section
variable {w w' : World} {B bR : Nat} {s : List UInt8} {link : Bool} {gm nm : Nat} {D : DataW Unit} {cr cF vr v : Value} {runs : List Em.R} {rs : List Il.Rw} {V : List V3}
theorem rdM2_row : rowsF (rdM2 bR gm nm s link D cr cF vr runs) 3 4 5 v rs V (1, 0) = some (.row 96 4 vr runs.length (acells runs)) := by
  unfold rowsF rdM2
  rw [if_neg (by simp), if_neg (by simp), if_neg (by simp), if_neg (by simp), if_pos rfl]
theorem rdM2_blk : rowsF (rdM2 bR gm nm s link D cr cF vr runs) 3 4 5 v rs V (0, 0) = some (.blk bR (rdC s link gm cr cF) 59) := by
  unfold rowsF rdM2
  rw [if_neg (by simp), if_neg (by simp), if_neg (by simp), if_pos rfl]
theorem rdM2_uq_row (vr' : Value) (runs' : List Em.R) : uq (rowsF (rdM2 bR gm nm s link D cr cF vr runs) 3 4 5 v rs V) (1, 0) (.row 96 4 vr' runs'.length (acells runs')) = rowsF (rdM2 bR gm nm s link D cr cF vr' runs') 3 4 5 v rs V := by
  funext q
  unfold uq
  by_cases h : q = (1, 0)
  · subst h; rw [if_pos rfl, rdM2_row]
  · rw [if_neg h]; unfold rowsF rdM2; rw [if_neg h, if_neg h]
theorem rdM2_uq_blk (cr' cF' : Value) : uq (rowsF (rdM2 bR gm nm s link D cr cF vr runs) 3 4 5 v rs V) (0, 0) (.blk bR (rdC s link gm cr' cF') 59) = rowsF (rdM2 bR gm nm s link D cr' cF' vr runs) 3 4 5 v rs V := by
  funext q
  unfold uq
  by_cases h : q = (0, 0)
  · subst h; rw [if_pos rfl, rdM2_blk]
  · rw [if_neg h]; unfold rowsF rdM2; rw [if_neg h, if_neg h]
theorem RS.rblk (h : RS w B (rdM2 bR gm nm s link D cr cF vr runs) 3 4 5 v rs V) : w.heap[bR]? = some (.cells (rdC s link gm cr cF) 59 (0, 0)) ∧ B ≤ bR ∧ bR < w.heap.size := by
  have h1 := h.hp.holds _ _ rdM2_blk
  exact ⟨h1.2, h1.1, (Array.getElem?_eq_some_iff.1 h1.2).1⟩
/-- the runs' row has grown -/
theorem RS.runsTo (h : RS w B (rdM2 bR gm nm s link D cr cF vr runs) 3 4 5 v rs V) (hB : B ≤ w.heap.size) {vr' : Value} {x : Em.R} (hg : w.grownBy w' vr.ownBlock) (ho : w'.ownsRow B 96 4 vr' (runs.length + 1) (acells runs ++ acell x)) (hat : At w.heap.size vr vr') :
    RS w' B (rdM2 bR gm nm s link D cr cF vr' (runs ++ [x])) 3 4 5 v rs V ∧ Below B w w' := by
  have t := h.hp.tput (k := (1, 0)) (.row 96 4 vr' (runs ++ [x]).length (acells (runs ++ [x]))) rdM2_row hg (by
    show World.ownsRow _ _ _ _ _ _ _
    rw [List.length_append, List.length_singleton, show acells (runs ++ [x]) = acells runs ++ acell x by simp [acells]]
    exact ho) hat hB
  rw [rdM2_uq_row] at t
  exact ⟨h.along t, t.bel⟩
/-- the block's cell of the runs, of the rows -/
theorem RS.cellr (h : RS w B (rdM2 bR gm nm s link D cr cF vr runs) 3 4 5 v rs V) (hB : B ≤ w.heap.size) (c' : Value) : RS (w.setCell ⟨bR, 4, none⟩ c') B (rdM2 bR gm nm s link D c' cF vr runs) 3 4 5 v rs V ∧ Below B w (w.setCell ⟨bR, 4, none⟩ c') := by
  obtain ⟨h1, h2, h3⟩ := h.rblk
  have t := h.hp.tput (k := (0, 0)) (w' := w.setCell ⟨bR, 4, none⟩ c') (.blk bR (rdC s link gm c' cF) 59) rdM2_blk (grown_set w ⟨bR, 4, none⟩ c') ⟨h2, heap_setCell_same w bR 4 (rdC s link gm cr cF) _ c' h1⟩ (fun g hg => .inl hg) hB
  rw [rdM2_uq_blk] at t
  exact ⟨h.along t, t.bel⟩
theorem RS.cellF (h : RS w B (rdM2 bR gm nm s link D cr cF vr runs) 3 4 5 v rs V) (hB : B ≤ w.heap.size) (c' : Value) : RS (w.setCell ⟨bR, 5, none⟩ c') B (rdM2 bR gm nm s link D cr c' vr runs) 3 4 5 v rs V ∧ Below B w (w.setCell ⟨bR, 5, none⟩ c') := by
  obtain ⟨h1, h2, h3⟩ := h.rblk
  have t := h.hp.tput (k := (0, 0)) (w' := w.setCell ⟨bR, 5, none⟩ c') (.blk bR (rdC s link gm cr c') 59) rdM2_blk (grown_set w ⟨bR, 5, none⟩ c') ⟨h2, heap_setCell_same w bR 5 (rdC s link gm cr cF) _ c' h1⟩ (fun g hg => .inl hg) hB
  rw [rdM2_uq_blk] at t
  exact ⟨h.along t, t.bel⟩
theorem RS.runsRow (h : RS w B (rdM2 bR gm nm s link D cr cF vr runs) 3 4 5 v rs V) : w.ownsRow B 96 4 vr runs.length (acells runs) := h.hp.holds _ _ rdM2_row
theorem RS.rcells (h : RS w B (rdM2 bR gm nm s link D cr cF vr runs) 3 4 5 v rs V) : w.cell? ⟨bR, 4, none⟩ = some cr ∧ w.cell? ⟨bR, 5, none⟩ = some cF ∧ (∀ j, w.frozen? ⟨bR, j, none⟩ = false) := by
  have hb := h.rblk.1
  exact ⟨blk_cell hb 4, blk_cell hb 5, blk_free hb⟩
end
end Go.Proofs.YtkfhkfagmokjpaaGreatDoor

namespace Go.Proofs.YtkfhkfagmokjpaaGreatDoor
open Go.RowKit Go.Maps
attribute [local go_sem] canOp readsAs readUpon

section
variable {w w' : World} {B bR : Nat} {s : List UInt8} {link : Bool} {st : Il.Sc} {gm nm : Nat} {D : DataW Unit} {vr vF : Value} {rs : List Il.Rw} {V : List V3} {i mk : Nat}
set_option maxHeartbeats 8000000 in
set_option maxRecDepth 100000 in
theorem rd_runN (h : RdOK w B bR s link st i mk) (ok : Il.ScOK st i) (hi : i < s.length) (hs : s.length ≤ 4000000) (hT : Tabs w) (hc : Em.kind s (i : Int) = none) :
    Calls Tryz.prog 39 #[.pointer (some ⟨bR, 0, none⟩), .int .i64 (i : Int)] w fun e w' => e = .returned (.int .i64 ((Es.next s i).2.1 : Int)) ∧
      RdOK w' B bR s link ⟨Il.pput st.l (Lib.encodeRune ((Es.next s i).1 : Int)), st.runs⟩ (Es.next s i).2.1 mk ∧ Below B w w' := by
  have hkd := Lib.hid (pkind_any s (i : Int) (by omega) w hT)
  rw [hc] at hkd
  unfold kindV at hkd
  have hpl := Lib.hid (fun (w1 : World) (hr : RdOK w1 B bR s link st i mk) => rd_plain hr ok hi hs)
  have hext := Lib.hid (fun (w1 : World) (hb : Below w.heap.size w w1) => (show RdOK w1 B bR s link st i mk from by
    obtain ⟨hB, gm, nm, D, vr, vF, rs, V, hR, hw, hnm⟩ := h
    exact ⟨Nat.le_trans hB hb.size, gm, nm, D, vr, vF, rs, V, hR.ext hB hb, hw, hnm⟩))
  obtain ⟨hB, gm, nm, D, vr, vF, rs, V, hR, hw, hnm⟩ := h
  obtain ⟨f0, f1, f2, f3, f4, f5, f6⟩ := hR.cells
  clear hR hw hnm
  obtain ⟨en, hen⟩ : ∃ en, en = Es.next s i := ⟨_, rfl⟩
  rw [← hen] at hpl ⊢
  clear hen
  go_enter Tryz.func39, Tryz.ntmps39
  go_wp2_with fail
  refine hkd.out.mono ?_
  rintro e w1 ⟨rfl, hb1⟩
  have hb1h := Lib.hid hb1
  clear f0 f1 f2 f3 f4 f5 f6 hkd hb1
  go_wp2_with fail
  refine (hpl.out _ (hext.out _ (ext_trans hb1h.out (ext_alloc _ _)))).mono ?_
  rintro e w2 ⟨rfl, hr2, hb2⟩
  have hb := Lib.hid ((ext_trans hb1h.out (ext_alloc _ _)).mono hB |>.trans hb2)
  replace hr2 := Lib.hid hr2
  clear hpl hext hb2
  go_wp2
  go_ret
  exact ⟨rfl, hr2.out, hb.out⟩
end
end Go.Proofs.YtkfhkfagmokjpaaGreatDoor

namespace Go.Proofs.YtkfhkfagmokjpaaGreatDoor
open Go.RowKit Go.Maps
attribute [local go_sem] canOp readsAs readUpon

theorem rdRunEI : EI Tryz.prog 57 96 4 24 := EI.mk' Tryz.underlying57 (z := .agg #[.int .u8 0, .int .i64 0, .bool false, .bool false]) (by kernel_rfl) rfl (by omega)
theorem heap_setCell_other (w : World) (a : Addr) (k : Nat) (u : Value) (h : a.block ≠ k) : (w.setCell a u).heap[k]? = w.heap[k]? := Below.heap_setCell w a u k (fun e => h e.symm)
section
variable {w w' : World} {B bR : Nat} {s : List UInt8} {link : Bool} {st : Il.Sc} {gm nm : Nat} {D : DataW Unit} {vr vF : Value} {rs : List Il.Rw} {V : List V3} {i mk : Nat}
set_option maxHeartbeats 8000000 in
set_option maxRecDepth 100000 in
theorem rd_runY (h : RdOK w B bR s link st i mk) (ok : Il.ScOK st i) (hi : i < s.length) (hs : s.length ≤ 4000000) (hT : Tabs w) {x : Em.R} {n : Nat} (hc : Em.kind s (i : Int) = some (x, n)) (hn : i < n) :
    Calls Tryz.prog 39 #[.pointer (some ⟨bR, 0, none⟩), .int .i64 (i : Int)] w fun e w' => e = .returned (.int .i64 (n : Int)) ∧
      RdOK w' B bR s link ⟨st.l ++ [⟨Il.none_, some st.runs.length, x.n.toNat, x.ch⟩], st.runs ++ [x]⟩ n mk ∧ Below B w w' := by
  have hkd := Lib.hid (pkind_any s (i : Int) (by omega) w hT)
  rw [hc] at hkd
  unfold kindV aval at hkd
  obtain ⟨hB, gm, nm, D, vr, vF, rs, V, hR, hw, hnm⟩ := h
  have hl1 := RdOK.runs_le ok (by omega) hs hR
  have hrl := ok.rlen
  obtain ⟨f0, f1, f2, f3, f4, f5, f6⟩ := hR.cells
  have hrel := Il.rel_run hR.rel ok.rns x
  have hends := hR.ends
  have hext := Lib.hid (fun (w1 : World) (hb : Below w.heap.size w w1) => (show RS w1 B (rdM2 bR gm nm s link D vr vF vr st.runs) 3 4 5 vF rs V from (hR.ext hB hb).rw))
  replace hR := Lib.hid hR
  go_enter Tryz.func39, Tryz.ntmps39
  go_wp2_with fail
  refine hkd.out.mono ?_
  rintro e w1 ⟨rfl, hb1⟩
  have hz1 := hb1.size
  obtain ⟨W1, hW1⟩ : ∃ W1, W1 = w1.alloc (.cells #[.int .u8 (x.ch.toNat : Int), .int .i64 x.n, .bool x.o, .bool x.c] 96) := ⟨_, rfl⟩
  obtain ⟨gx, hgx⟩ : ∃ gx, gx = w1.heap.size := ⟨_, rfl⟩
  have hbW : Below w.heap.size w W1 := by rw [hW1]; exact ext_trans hb1 (ext_alloc _ _)
  have h1 := Lib.hid (hext.out _ hbW)
  have hB1 := Nat.le_trans hB hbW.size
  have hSW : W1.heap[gx]? = some (.cells #[.int .u8 (x.ch.toNat : Int), .int .i64 x.n, .bool x.o, .bool x.c] 96 (0, 0)) := by rw [hW1, hgx]; exact heap_alloc_new _ _
  have hgx1 : gx < W1.heap.size := by rw [hW1, hgx]; simp
  have hrow := h1.out.runsRow
  have hrow0 := (hext.out _ hb1).runsRow
  have hgx2 : some gx ≠ vr.ownBlock := fun e => by have := (World.ownsRow.lt hrow0 gx e.symm).2; omega
  have hgxR : gx ≠ bR := by have := (hext.out _ hb1).rblk.2.2; omega
  have hgxR' : bR ≠ gx := Ne.symm hgxR
  obtain ⟨d4, d5, df⟩ := h1.out.rcells
  have hS : (fun u : World => u.heap[gx]? = some (.cells #[.int .u8 (x.ch.toNat : Int), .int .i64 x.n, .bool x.o, .bool x.c] 96 (0, 0))) W1.drew := hSW
  have hS1 : (fun u : World => u.heap[gx]? = some (.cells #[.int .u8 (x.ch.toNat : Int), .int .i64 x.n, .bool x.o, .bool x.c] 96 (0, 0))) (W1.drew.alloc (.cells #[.int .u8 (x.ch.toNat : Int), .int .i64 x.n, .bool x.o, .bool x.c] 96)) := (keep (w := W1.drew) hSW (ext_alloc W1.drew _)).1
  have hfin := Lib.hid (fun (vr' : Value) (u : World) (hu : RS u B (rdM2 bR gm nm s link D vr' vF vr' (st.runs ++ [x])) 3 4 5 vF rs V) (hb : Below B W1 u) => (hbW.mono hB).trans hb)
  clear f0 f1 f2 f3 f4 f5 f6 hkd hb1 hext hrow0
  go_upto_region 4 with fail
  rw [← hgx, ← hW1]
  have hbR1 : bR < W1.heap.size := h1.out.rblk.2.2
  clear hgx hW1 hfin
  refine wp_region_tree (.rd 0 (.rd 1 (.rd 2 (.rd 3 (.rd 5 (.fk 4 (.mk 6 (.mk 7 (.rd 8 (.rd 9 (.mk 10 .fin))))) 6 (.mk 4 (.mk 7 (.rd 8 (.rd 9 (.mk 10 .fin))))))))))) (fun u : World => u.heap[gx]? = some (.cells #[.int .u8 (x.ch.toNat : Int), .int .i64 x.n, .bool x.o, .bool x.c] 96 (0, 0))) hS (by kernel_rfl) (by kernel_rfl) (by kernel_rfl) (fun _ _ d _ _ h => by cases d <;> exact h) ?_
  (first | refine wpT_move rfl ?_ | (refine wpT_rd rfl ?_; intro K hK; go_simp; refine hK _ _ _ ?_; clear hK K))
  (first | refine wpT_move rfl ?_ | (refine wpT_rd rfl ?_; intro K hK; go_simp; refine hK _ _ _ ?_; clear hK K))
  (first | refine wpT_move rfl ?_ | (refine wpT_rd rfl ?_; intro K hK; go_simp; refine hK _ _ _ ?_; clear hK K))
  (first | refine wpT_move rfl ?_ | (refine wpT_rd rfl ?_; intro K hK; go_simp; refine hK _ _ _ ?_; clear hK K))
  refine wpT_read (.agg #[.int .u8 (x.ch.toNat : Int), .int .i64 x.n, .bool x.o, .bool x.c]) rfl rfl hS (fun u hu => by
    have h1 : u.cell? ⟨gx, 0, none⟩ = some (.int .u8 (x.ch.toNat : Int)) := blk_cell (j := 0) hu
    have h2 : u.cell? ⟨gx, 1, none⟩ = some (.int .i64 x.n) := blk_cell (j := 1) hu
    have h3 : u.cell? ⟨gx, 2, none⟩ = some (.bool x.o) := blk_cell (j := 2) hu
    have h4 : u.cell? ⟨gx, 3, none⟩ = some (.bool x.c) := blk_cell (j := 3) hu
    go_simp) ?_
  refine wpT_fk ?wa ?wb
  case' wa =>
    refine wpT_mk rfl ?_
    intro K hK
    go_simp
    refine ⟨_, hS, fun _ h => h, hK _ _ _ ?_⟩
    clear hK K
    refine wpT_mk rfl ?_
    intro K hK
    go_simp
    refine ⟨_, hS1, fun _ h => h, hK _ _ _ ?_⟩
    clear hK K
    refine wpT_app rfl rfl (.tmp 27) (.tmp 29) rfl rdRunEI (v := vr) rfl (hrow.drew.alloc _) rfl (Row.freshN W1.drew 96 _ rfl rfl) (by intro u hu; simp at hu; rcases hu with rfl | rfl | rfl | rfl <;> rfl) (by omega) (by omega) (by simp; omega) ?_
    intro v' w' ho hg hb hat
    have hgw : W1.grownBy w' vr.ownBlock := grown_new (w0 := W1) (grown_drew hg.out)
    obtain ⟨h2, hb2⟩ := h1.out.runsTo hB1 hgw ho (at_new (w := W1) hat.out)
    obtain ⟨g', c', rfl, hc', hBg', hgz'⟩ := hq_some ho (by omega)
    have hS2 : (fun u : World => u.heap[gx]? = some (.cells #[.int .u8 (x.ch.toNat : Int), .int .i64 x.n, .bool x.o, .bool x.c] 96 (0, 0))) w' := (hgw.block gx hgx1 hgx2).trans hSW
    refine ⟨_, hS2, fun _ h => h, ?_⟩
    (first | refine wpT_move rfl ?_ | (refine wpT_rd rfl ?_; intro K hK; go_simp; refine hK _ _ _ ?_; clear hK K))
    (first | refine wpT_move rfl ?_ | (refine wpT_rd rfl ?_; intro K hK; go_simp; refine hK _ _ _ ?_; clear hK K))
    obtain ⟨k4, k5, kf⟩ := h2.rcells
    have hB2 := Nat.le_trans hB1 hb2.size
    obtain ⟨h3, hb3⟩ := h2.cellr hB2 (.slice (some ⟨g', 0, none⟩) (st.runs.length + 1) c')
    have hS3 : (fun u : World => u.heap[gx]? = some (.cells #[.int .u8 (x.ch.toNat : Int), .int .i64 x.n, .bool x.o, .bool x.c] 96 (0, 0))) (w'.setCell ⟨bR, 4, none⟩ (.slice (some ⟨g', 0, none⟩) (st.runs.length + 1) c')) := (heap_setCell_other w' ⟨bR, 4, none⟩ gx _ hgxR').trans hS2
    refine wpT_store rfl rfl (exec_store1 rfl (by kernel_rfl) rfl rfl k4 kf) hS3 ?_
    refine wpT_fin ?_
    have hB3 := Nat.le_trans hB2 hb3.size
    have hbel := Lib.hid (((hbW.mono hB).trans hb2).trans hb3)
    clear hS3 hS2 hS hS1 k4 k5 kf d4 d5 df ho hg hb hat hgw h2 hc' hBg' hgz' hrow hSW hb2 hb3 h1 hbW
    generalize World.setCell _ _ _ = W3 at *
    obtain ⟨z4, z5, zf⟩ := h3.rcells
    have harr := h3.arr
    have hgrow := Lib.hid (fun (v5 : Value) (w5 : World) (hg : W3.grownBy w5 vF.ownBlock) ho hat => h3.grow (w' := w5) (v' := v5) (j := 1) hB3 hg ho hat)
    replace h3 := Lib.hid h3
    replace hrel := Lib.hid hrel
    replace hends := Lib.hid hends
    go_wp2_with (at_builtin; refine wpList_app_two rfl (.tmp 37) (.tmp 39) rfl rowsEI rfl harr rfl (by first | rfl | simp) rfl (by intro u hu; simp at hu; rcases hu with rfl | rfl <;> rfl) (by omega) (by omega) hB3 ?_; intro v5 w5 ho5 hg5 hb5 hat5; obtain ⟨A5, c5, rfl, hc5⟩ := own_shape ho5; obtain ⟨h5, T5⟩ := hgrow.out _ _ hg5.out ho5 hat5.out; obtain ⟨y4, y5, yf⟩ := h5.rcells)
    have hB5 := Nat.le_trans hB3 T5.bel.size
    obtain ⟨h6, b6⟩ := h5.cellF hB5 (.slice A5 (rs.length + 1) c5)
    have hb := (hbel.out.trans T5.bel).trans b6
    go_ret
    exact ⟨rfl, ⟨Nat.le_trans hB hb.size, gm, nm, D, _, _, _, _, ⟨h6, hrel.out, hends.out⟩, by rw [Il.wts_append]; show _ + 0 ≤ _; omega, by omega⟩, hb⟩
  case' wb =>
    refine wpT_mk rfl ?_
    intro K hK
    go_simp
    refine ⟨_, hS1, fun _ h => h, hK _ _ _ ?_⟩
    clear hK K
    have d4' := (World.cell?_alloc_lt W1.drew (.cells #[.int .u8 (x.ch.toNat : Int), .int .i64 x.n, .bool x.o, .bool x.c] 96) ⟨bR, 4, none⟩ hbR1).trans d4
    refine wpT_mk rfl ?_
    intro K hK
    go_simp
    refine ⟨_, hS1, fun _ h => h, hK _ _ _ ?_⟩
    clear hK K
    refine wpT_app rfl rfl (.tmp 27) (.tmp 29) rfl rdRunEI (v := vr) rfl (hrow.drew.alloc _) rfl (Row.freshN W1.drew 96 _ rfl rfl) (by intro u hu; simp at hu; rcases hu with rfl | rfl | rfl | rfl <;> rfl) (by omega) (by omega) (by simp; omega) ?_
    intro v' w' ho hg hb hat
    have hgw : W1.grownBy w' vr.ownBlock := grown_new (w0 := W1) (grown_drew hg.out)
    obtain ⟨h2, hb2⟩ := h1.out.runsTo hB1 hgw ho (at_new (w := W1) hat.out)
    obtain ⟨g', c', rfl, hc', hBg', hgz'⟩ := hq_some ho (by omega)
    have hS2 : (fun u : World => u.heap[gx]? = some (.cells #[.int .u8 (x.ch.toNat : Int), .int .i64 x.n, .bool x.o, .bool x.c] 96 (0, 0))) w' := (hgw.block gx hgx1 hgx2).trans hSW
    refine ⟨_, hS2, fun _ h => h, ?_⟩
    (first | refine wpT_move rfl ?_ | (refine wpT_rd rfl ?_; intro K hK; go_simp; refine hK _ _ _ ?_; clear hK K))
    (first | refine wpT_move rfl ?_ | (refine wpT_rd rfl ?_; intro K hK; go_simp; refine hK _ _ _ ?_; clear hK K))
    obtain ⟨k4, k5, kf⟩ := h2.rcells
    have hB2 := Nat.le_trans hB1 hb2.size
    obtain ⟨h3, hb3⟩ := h2.cellr hB2 (.slice (some ⟨g', 0, none⟩) (st.runs.length + 1) c')
    have hS3 : (fun u : World => u.heap[gx]? = some (.cells #[.int .u8 (x.ch.toNat : Int), .int .i64 x.n, .bool x.o, .bool x.c] 96 (0, 0))) (w'.setCell ⟨bR, 4, none⟩ (.slice (some ⟨g', 0, none⟩) (st.runs.length + 1) c')) := (heap_setCell_other w' ⟨bR, 4, none⟩ gx _ hgxR').trans hS2
    refine wpT_store rfl rfl (exec_store1 rfl (by kernel_rfl) rfl rfl k4 kf) hS3 ?_
    refine wpT_fin ?_
    have hB3 := Nat.le_trans hB2 hb3.size
    have hbel := Lib.hid (((hbW.mono hB).trans hb2).trans hb3)
    clear hS3 hS2 hS hS1 k4 k5 kf d4 d5 df ho hg hb hat hgw h2 hc' hBg' hgz' hrow hSW hb2 hb3 h1 hbW
    generalize World.setCell _ _ _ = W3 at *
    obtain ⟨z4, z5, zf⟩ := h3.rcells
    have harr := h3.arr
    have hgrow := Lib.hid (fun (v5 : Value) (w5 : World) (hg : W3.grownBy w5 vF.ownBlock) ho hat => h3.grow (w' := w5) (v' := v5) (j := 1) hB3 hg ho hat)
    replace h3 := Lib.hid h3
    replace hrel := Lib.hid hrel
    replace hends := Lib.hid hends
    go_wp2_with (at_builtin; refine wpList_app_two rfl (.tmp 37) (.tmp 39) rfl rowsEI rfl harr rfl (by first | rfl | simp) rfl (by intro u hu; simp at hu; rcases hu with rfl | rfl <;> rfl) (by omega) (by omega) hB3 ?_; intro v5 w5 ho5 hg5 hb5 hat5; obtain ⟨A5, c5, rfl, hc5⟩ := own_shape ho5; obtain ⟨h5, T5⟩ := hgrow.out _ _ hg5.out ho5 hat5.out; obtain ⟨y4, y5, yf⟩ := h5.rcells)
    have hB5 := Nat.le_trans hB3 T5.bel.size
    obtain ⟨h6, b6⟩ := h5.cellF hB5 (.slice A5 (rs.length + 1) c5)
    have hb := (hbel.out.trans T5.bel).trans b6
    go_ret
    exact ⟨rfl, ⟨Nat.le_trans hB hb.size, gm, nm, D, _, _, _, _, ⟨h6, hrel.out, hends.out⟩, by rw [Il.wts_append]; show _ + 0 ≤ _; omega, by omega⟩, hb⟩
end
end Go.Proofs.YtkfhkfagmokjpaaGreatDoor
