/- The program's reader of blocks: a line goes through the containers, and what it begins. -/
import Derived.Test.YtmmgfoepfapnkaaGreatDoorQ21
namespace Go.Proofs.YtmmgfoepfapnkaaGreatDoor
open Go.RowKit
attribute [local go_sem] canOp readsAs readUpon

/-- the outermost is the document -/
def Pb.Doc (row : List Pb.Cn) : Prop := (row.map (·.kind)).getLast? = some 0
theorem doc_cons {c : Pb.Cn} {o : List Pb.Cn} (h : o ≠ []) : Pb.Doc (c :: o) ↔ Pb.Doc o := by
  unfold Pb.Doc
  cases o with
  | nil => exact absurd rfl h
  | cons a b => simp [List.getLast?_cons_cons]
theorem doc_head {c c' : Pb.Cn} {o : List Pb.Cn} (h : c'.kind = c.kind) : Pb.Doc (c' :: o) ↔ Pb.Doc (c :: o) := by
  unfold Pb.Doc
  rw [List.map_cons, List.map_cons, h]
theorem give_kind (d c : Pb.Cn) : (Pb.give d c).kind = c.kind := by
  unfold Pb.give
  split
  · unfold Pb.Cn.addItem
    split
    · rfl
    · split <;> rfl
  · rfl
theorem pops_doc : ∀ (n : Nat) (row : List Pb.Cn), n < row.length → Pb.Doc row → Pb.Doc (Pb.pops n row)
  | 0, _, _, h => h
  | _ + 1, [], h, _ => by simp at h
  | _ + 1, [c], h, _ => by simp at h
  | n + 1, d :: c :: o, h, hd => pops_doc n (Pb.give d c :: o) (by simpa using h) ((doc_head (give_kind d c)).2 ((doc_cons (by simp)).1 hd))
theorem addTip_doc {r : Pb.Rd} (t : Bk.Tree) (h : Pb.Doc r.row) : Pb.Doc (Pb.addTip t r).row := by
  unfold Pb.addTip
  cases hr : r.row with
  | nil => simp only [hr]; rw [hr] at h; exact h
  | cons c o => rw [hr] at h; exact (doc_head rfl).2 h
theorem closeLeaf_doc {r : Pb.Rd} (h : Pb.Doc r.row) : Pb.Doc (Pb.closeLeaf r).row := by
  unfold Pb.closeLeaf
  split
  · exact addTip_doc _ h
  · split
    · exact addTip_doc _ h
    · exact h
theorem closeLeaf_len (r : Pb.Rd) : (Pb.closeLeaf r).row.length = r.row.length := by
  have ha : ∀ t, (Pb.addTip t r).row.length = r.row.length := fun t => by
    unfold Pb.addTip
    cases hr : r.row with
    | nil => simp [hr]
    | cons c o => simp
  unfold Pb.closeLeaf
  split
  · exact ha _
  · split
    · exact ha _
    · rfl
theorem closeTo_doc {r : Pb.Rd} {k : Nat} (hk : 1 ≤ k) (hp : 0 < r.row.length) (h : Pb.Doc r.row) : Pb.Doc (Pb.closeTo k r).row := by
  have := closeLeaf_len r
  exact pops_doc _ _ (by omega) (closeLeaf_doc h)
theorem doc_ne {row : List Pb.Cn} (h : Pb.Doc row) : row ≠ [] := fun e => by subst e; cases h
theorem begin_doc (ln : Nat) : ∀ (m k : Nat) (r : Pb.Rd) (s : List UInt8), 1 ≤ k → Pb.Doc r.row → Pb.Doc (Pb.begin ln m k r s).1.row
  | 0, _, _, _, _, h => h
  | m + 1, k, r, s, hk, h => by
    rw [Pb.begin]
    cases Bk.opener s with
    | none => exact h
    | some oq =>
      obtain ⟨o, q⟩ := oq
      have hp : 0 < r.row.length := by have := doc_ne h; cases hr : r.row with
        | nil => exact absurd hr this
        | cons a b => simp
      have h2 := closeTo_doc hk hp h
      exact begin_doc ln m (k + 1) _ q (by omega) ((doc_cons (doc_ne h2)).2 h2)
theorem leafLine_doc {ln k : Nat} {s : List UInt8} {r : Pb.Rd} (hk : 1 ≤ k) (hp : 0 < r.row.length) (h : Pb.Doc r.row) : Pb.Doc (Pb.leafLine ln k s r).row := by
  have h2 := closeTo_doc hk hp h
  unfold Pb.leafLine
  split
  · exact h2
  · split
    · exact addTip_doc _ h2
    · split
      · exact addTip_doc _ h2
      · split
        · exact h2
        · split
          · exact h
          · exact h2
theorem take_bounds : ∀ (L : List Pb.Cn) (s : List UInt8), (Pb.take L s).1 ≤ L.length ∧ (Pb.take L s).2.length ≤ s.length + 3 * L.length
  | [], s => by simp [Pb.take]
  | c :: r, s => by
    rw [Pb.take]
    cases ht : c.take s with
    | none => simp
    | some q =>
      have := take_bounds r q
      have := cn_take_len ht
      simp only [List.length_cons]; omega
theorem take_pos {row : List Pb.Cn} (h : Pb.Doc row) (s : List UInt8) : 1 ≤ (Pb.take row.reverse s).1 := by
  rcases List.eq_nil_or_concat row with e | ⟨r, c, e⟩
  · exact absurd e (doc_ne h)
  · rw [List.concat_eq_append] at e
    subst e
    unfold Pb.Doc at h
    simp only [List.map_append, List.map_cons, List.map_nil, List.getLast?_concat, Option.some.injEq] at h
    rw [List.reverse_append]
    show 1 ≤ (Pb.take (c :: r.reverse) s).1
    rw [Pb.take]
    have : c.take s = some s := by unfold Pb.Cn.take; rw [if_neg (by omega), if_neg (by omega)]
    rw [this]
    simp only; omega
theorem trim_len (s : List UInt8) : (Fn.trim s).length ≤ s.length := by
  unfold Fn.trim
  have h1 : ∀ l : List UInt8, (Fn.front l).length ≤ l.length := fun l => by
    induction l with
    | nil => simp [Fn.front]
    | cons b r ih => unfold Fn.front; split <;> simp only [List.length_cons] at * <;> omega
  have h2 : ∀ l : List UInt8, (Fn.back l).length ≤ l.length := fun l => by
    induction l with
    | nil => simp [Fn.back]
    | cons b r ih => unfold Fn.back; split <;> simp only [List.length_cons, List.length_nil] at * <;> omega
  have := h1 s
  have := h2 (Fn.front s)
  omega
theorem leafLine_sz {N i : Nat} {r : Pb.Rd} (h : Pb.Sz N i r) (ln k : Nat) (hln : ln ≤ 1000000) (s : List UInt8) (hs : s.length ≤ 300010) : Pb.Sz (N + 50) (i + 1) (Pb.leafLine ln k s r) := by
  have h2 := closeTo_sz h k (i + 1)
  have ht := trim_len s
  unfold Pb.leafLine
  split
  · exact h2.mono (by omega) (Nat.le_refl _)
  · split
    · exact (addTip_sz h2 _).mono (by omega) (Nat.le_refl _)
    · split
      · exact (addTip_sz h2 _).mono (by omega) (Nat.le_refl _)
      · split
        · exact (h2.leaf ⟨7, ln, [], _, false⟩ (Nat.zero_le _) (fun s hs => by cases hs) hln).mono (by omega) (Nat.le_refl _)
        · split
          · refine (h.leaf { r.leaf with lines := r.leaf.lines ++ [Fn.trim s] } (i' := i + 1) (by have := h.lines; simp; omega) (fun t ht => ?_) h.line).mono (by omega) (Nat.le_refl _)
            rcases List.mem_append.1 ht with ht | ht
            · exact h.text t ht
            · rw [List.mem_singleton.1 ht]; omega
          · exact (h2.leaf ⟨4, ln, [Fn.trim s], Pb.noOp, false⟩ (by simp) (fun t ht => by rw [List.mem_singleton.1 ht]; omega) hln).mono (by omega) (Nat.le_refl _)
theorem fenceLine_sz {N i : Nat} {r : Pb.Rd} (h : Pb.Sz N i r) (s : List UInt8) (hs : s.length ≤ 300000) : Pb.Sz (N + 50) (i + 1) (Pb.fenceLine s r) := by
  unfold Pb.fenceLine
  split
  · exact (closeLeaf_sz (h.leaf { r.leaf with ended := true } h.lines h.text h.line) (i + 1)).mono (by omega) (Nat.le_refl _)
  · refine (h.leaf { r.leaf with lines := r.leaf.lines ++ [Cl.strip r.leaf.op.ind s] } (i' := i + 1) (by have := h.lines; simp; omega) (fun t ht => ?_) h.line).mono (by omega) (Nat.le_refl _)
    rcases List.mem_append.1 ht with ht | ht
    · exact h.text t ht
    · rw [List.mem_singleton.1 ht]; have := Cl.strip_len (r.leaf.op.ind : Int) s; omega
theorem fenceLine_doc {s : List UInt8} {r : Pb.Rd} (h : Pb.Doc r.row) : Pb.Doc (Pb.fenceLine s r).row := by
  unfold Pb.fenceLine
  split
  · exact closeLeaf_doc (r := { r with leaf := { r.leaf with ended := true } }) h
  · exact h
theorem pfenceLine (w : World) (B : Nat) (E : Nat → Option Part) (R : Nat) (r : Pb.Rd) (h : PS w B E R r) {N i : Nat} (hs : Pb.Sz N i r) (hN : N ≤ 800000000) (hi : i ≤ 100000) (s : List UInt8) (hl : s.length + 100 ≤ 140737488355328) :
    Calls Tryz.prog 118 #[adr R, .string (bs s)] w fun e w' => e = .returned (.tuple #[]) ∧ PS w' B E R (Pb.fenceLine s r) ∧ Below B w w' := by
  have hen := fun w => ends_any r.leaf.op.c (r.leaf.op.n : Int) (r.leaf.op.ind : Int) (bs r.leaf.op.info) s w (by omega)
  have htr := fun w => strip_any s (r.leaf.op.ind : Int) w (by omega)
  unfold Pb.fenceLine
  by_cases he : Fn.ends r.leaf.op.c r.leaf.op.n s = true
  · rw [if_pos he]
    rw [he] at hen
    exact pfl_ends w B E R r h hs hN hi s hen
  · rw [if_neg he]
    rw [show Fn.ends r.leaf.op.c r.leaf.op.n s = false by simpa using he] at hen
    exact pfl_more w B E R r h hs hi s _ hen htr

set_option maxHeartbeats 4000000 in
set_option maxRecDepth 100000 in
theorem ptakeLine (w : World) (B : Nat) (E : Nat → Option Part) (R : Nat) (r : Pb.Rd) (h : PS w B E R r) {N i : Nat} (hs : Pb.Sz N i r) (hd : Pb.Doc r.row) (hN : N ≤ 700000000) (hi : i ≤ 100000) (ln : Nat) (hln : ln ≤ 1000000) (s : List UInt8) (hl : s.length ≤ 299000) :
    Calls Tryz.prog 94 #[adr R, .int .i64 (ln : Int), .string (bs s)] w fun e w' => e = .returned (.tuple #[]) ∧ (PS w' B E R (Pb.takeLine ln s r) ∧ Pb.Sz (N + 2100) (i + 1) (Pb.takeLine ln s r) ∧ Pb.Doc (Pb.takeLine ln s r).row) ∧ Below B w w' := by
  obtain ⟨rv, lv, pv, M, row, hrow, hA⟩ := h
  have hrl : row.length = r.row.length := by rw [← hrow]; simp
  have hBw : B ≤ w.heap.size := by have := rd_facts hA; omega
  have hth := pthrough w B E R rv lv pv M row r.leaf r.places hA (by rw [hrl]; exact hs.few) s (by omega)
  rw [hrow] at hth
  obtain ⟨hb1, hb2⟩ := take_bounds r.row.reverse s
  have hb0 := take_pos hd s
  rw [List.length_reverse] at hb1 hb2
  have hfew := hs.few
  obtain ⟨K, hK⟩ : ∃ K, (Pb.take r.row.reverse s).1 = K := ⟨_, rfl⟩
  obtain ⟨Q, hQ⟩ : ∃ Q, (Pb.take r.row.reverse s).2 = Q := ⟨_, rfl⟩
  rw [hK] at hb0 hb1 hth
  rw [hQ] at hb2 hth
  have hQl : Q.length ≤ 299200 := by omega
  obtain ⟨T, hT⟩ : ∃ T, Pb.takeLine ln s r = T := ⟨_, rfl⟩
  have hTd := hT
  unfold Pb.takeLine at hTd
  rw [hK, hQ] at hTd
  rw [hT]
  obtain ⟨m, hm⟩ : ∃ m, r.row.length = m := ⟨_, rfl⟩
  rw [hm] at hTd hb1 hfew hrl
  replace hA := Lib.hid hA
  replace hrow := Lib.hid hrow
  replace hrl := Lib.hid hrl
  replace hm := Lib.hid hm
  by_cases h7 : r.leaf.kind = 7 ∧ K = m
  · rw [if_pos h7] at hTd
    obtain ⟨h7a, h7b⟩ := h7
    subst h7b
    have hfl := fun wz hz => pfenceLine wz B E R r hz hs (by omega) hi Q (by omega)
    rw [hTd] at hfl
    have hres : Pb.Sz (N + 2100) (i + 1) T ∧ Pb.Doc T.row := ⟨by rw [← hTd]; exact (fenceLine_sz hs Q (by omega)).mono (by omega) (Nat.le_refl _), by rw [← hTd]; exact fenceLine_doc hd⟩
    replace hfl := Lib.hid hfl
    replace hres := Lib.hid hres
    replace h7a := Lib.hid h7a
    clear hT hTd hK hQ
    go_enter Tryz.func94, Tryz.ntmps94
    go_wp2_with fail
    refine hth.mono ?_
    rintro e w1 ⟨rfl, hw1⟩
    have hA1 := PAt.mk (hA.out.hp.ext hw1) hA.out.good hA.out.old
    obtain ⟨hR1, hR2, hRf, c0, c1, _⟩ := rd_facts hA1
    obtain ⟨rA, rc, hrv, _⟩ := own_shape (hA1.hp.own (k := .row) rfl)
    rw [hrv, hrl.out] at c0
    rw [h7a.out] at c1
    have hP1 := Lib.hid (⟨rv, lv, pv, M, row, hrow.out, hA1⟩ : PS w1 B E R r)
    replace hA1 := Lib.hid hA1
    clear hRf
    go_wp2_with fail
    refine (hfl.out _ hP1.out).mono ?_
    rintro e w2 ⟨rfl, hP2, hb3⟩
    replace hP2 := Lib.hid hP2
    have hbf := Lib.hid ((hw1.mono hBw).trans hb3)
    go_wp2_with fail
    go_returns
    exact ⟨rfl, ⟨hP2.out, hres.out.1, hres.out.2⟩, hbf.out⟩
  · rw [if_neg h7] at hTd
    have hbe := fun wz hz => pbegin wz B E R r hz hs (by omega) hi ln K (by omega) (by rw [hm.out]; omega) Q (by omega)
    obtain ⟨G, hG⟩ : ∃ G, Pb.begin ln (41 - K) K r Q = G := ⟨_, rfl⟩
    have hgd := begin_doc ln (41 - K) K r Q (by omega) hd
    rw [hG] at hTd hbe hgd
    obtain ⟨r1, k1, s1⟩ := G
    simp only at hTd hbe hgd
    have hnot : ((r.leaf.kind : Int) == 7) = false ∨ ((((r.leaf.kind : Int) == 7) = true) ∧ ((K : Int) == (m : Int)) = false) := by
      by_cases ha : r.leaf.kind = 7
      · exact .inr ⟨by rw [beq_iff_eq]; omega, by rw [beq_eq_false_iff_ne]; intro e; exact h7 ⟨ha, by omega⟩⟩
      · exact .inl (by rw [beq_eq_false_iff_ne]; omega)
    replace hbe := Lib.hid hbe
    replace hgd := Lib.hid hgd
    replace hTd := Lib.hid hTd
    clear hT hK hQ hG h7
    rcases hnot with t7 | ⟨t7, tk⟩
    all_goals (
      go_enter Tryz.func94, Tryz.ntmps94
      go_wp2_with fail
      refine hth.mono ?_
      rintro e w1 ⟨rfl, hw1⟩
      have hA1 := PAt.mk (hA.out.hp.ext hw1) hA.out.good hA.out.old
      obtain ⟨hR1, hR2, hRf, c0, c1, _⟩ := rd_facts hA1
      obtain ⟨rA, rc, hrv, _⟩ := own_shape (hA1.hp.own (k := .row) rfl)
      rw [hrv, hrl.out] at c0
      have hP1 := Lib.hid (⟨rv, lv, pv, M, row, hrow.out, hA1⟩ : PS w1 B E R r)
      replace hA1 := Lib.hid hA1
      clear hRf
      go_wp2_with fail
      refine (hbe.out _ hP1.out).mono ?_
      rintro e w2 ⟨rfl, hP2, hz2, hk1, hk2, hs2, hb3⟩
      have hll := fun wz hz => pleafLine wz B E R r1 hz hz2 (by omega) hi ln k1 hk1 s1 (by omega)
      rw [hTd.out] at hll
      have hres : Pb.Sz (N + 2100) (i + 1) T ∧ Pb.Doc T.row := ⟨by rw [← hTd.out]; exact (leafLine_sz hz2 ln k1 hln s1 (by omega)).mono (by omega) (Nat.le_refl _), by rw [← hTd.out]; exact leafLine_doc hk1 (by omega) hgd.out⟩
      replace hP2 := Lib.hid hP2
      replace hll := Lib.hid hll
      replace hres := Lib.hid hres
      have hb4 := Lib.hid ((hw1.mono hBw).trans hb3)
      clear c0 c1 hz2 hk2
      go_wp2_with fail
      refine (hll.out _ hP2.out).mono ?_
      rintro e w4 ⟨rfl, hP4, hb5⟩
      replace hP4 := Lib.hid hP4
      have hbf := Lib.hid (hb4.out.trans hb5)
      go_wp2_with fail
      go_returns
      exact ⟨rfl, ⟨hP4.out, hres.out.1, hres.out.2⟩, hbf.out⟩)
end Go.Proofs.YtmmgfoepfapnkaaGreatDoor
