/- The document's own pairs of runs. -/
import Derived.Test.YtboeaofcioolnaaDoorEmInner
namespace Go.Proofs.YtboeaofcioolnaaDoor
open Go.RowKit

set_option maxHeartbeats 4000000 in
set_option maxRecDepth 100000 in
theorem rmatch_any (l : List Em.R) (A : Option Addr) (c : Nat) (w : World) (h : Row w w.heap.size 4 A l.length (acells l)) (hl : l.length ≤ 1000000) :
    Calls Tryd.prog 15 #[.slice A l.length c] w fun e w' => (∃ v, e = .returned v ∧ w'.ownsRow w.heap.size 50 3 v (Em.pairs l).length (pcells (Em.pairs l))) ∧ Below w.heap.size w w' := by
  have hR := Lib.hid h
  clear h
  go_enter Tryd.func15, Tryd.ntmps15
  go_wp2_with fail
  go_loopw [3, 13] (fun v i wr => ∃ k : Nat, k ≤ l.length ∧ i = .int .i64 k ∧ wr.ownsRow w.heap.size 3 1 v k (lcells ((l.take k).map fun r => Em.held r.n)) ∧ Below w.heap.size w wr) (fun _ i _ => l.length - (intOf i).toNat)
  case atStart => exact ⟨0, Nat.zero_le _, rfl, World.ownsRow_nil _ _ _ _, Below.refl _ _⟩
  case round =>
    obtain ⟨k, hk, rfl, hown, hb⟩ := hrel
    have hz := hb.size
    by_cases hkl : k < l.length
    · obtain ⟨b, o, rfl, hbb, hc⟩ := run_cell hR.out (by omega)
      obtain ⟨c0, c1, c2, c3⟩ := hc k hkl
      have d0 := (hb.cell (p := ⟨b, o + k * 4, none⟩) hbb).trans c0
      have d1 := (hb.cell (p := ⟨b, o + k * 4 + 1, none⟩) hbb).trans c1
      have d2 := (hb.cell (p := ⟨b, o + k * 4 + 2, none⟩) hbb).trans c2
      have d3 := (hb.cell (p := ⟨b, o + k * 4 + 3, none⟩) hbb).trans c3
      clear hc c0 c1 c2 c3
      have ht : Hid (((l.take (k + 1)).map fun r => Em.held r.n) = ((l.take k).map fun r => Em.held r.n) ++ [Em.held l[k].n]) := Lib.hid (by rw [List.take_succ_eq_append_getElem hkl, List.map_append]; rfl)
      obtain ⟨r, hr⟩ : ∃ r, r = l[k] := ⟨_, rfl⟩
      rw [← hr] at d0 d1 d2 d3 ht
      clear hr
      obtain ⟨H, hH⟩ : ∃ H, H = (l.take k).map fun r => Em.held r.n := ⟨_, rfl⟩
      rw [← hH] at hown ht
      clear hH
      have hbw : b < wr.heap.size := Nat.lt_of_lt_of_le hbb hb.size
      go_wp2_with fail
      refine (rheld_any _ _).mono ?_
      rintro e w2 ⟨rfl, rfl⟩
      go_wp2_with (at_builtin; refine wpList_app_new rfl (.tmp 17) (.tmp 21) rfl intEI rfl (hown.alloc _) rfl (by simp) rfl (by simp; rfl) (by omega) (by omega) (by simp; omega) ?_; intro v2 w2 hown2 hg2 hb3)
      go_roundw
      case rel => exact ⟨k + 1, hkl, by go_num, by rw [ht.out]; simpa [lcells] using hown2, hb.trans (((Below.refl _ _).alloc hz _).trans hb3)⟩
      case measure => simp [intOf]; omega
    · have hke : k = l.length := by omega
      subst hke
      rw [List.take_of_length_le (Nat.le_refl _)] at hown
      obtain ⟨A1, c1, rfl, hc1⟩ := own_shape hown
      obtain ⟨w1, rfl⟩ : ∃ w1 : World, w1 = wr := ⟨_, rfl⟩
      obtain ⟨L0, hL0⟩ : ∃ L, L = l.map fun r => Em.held r.n := ⟨_, rfl⟩
      rw [← hL0] at hown
      have hL0l : L0.length = l.length := by rw [hL0, List.length_map]
      have hB0 : ∀ i, Em.lf L0 i ≤ 100 := fun i => by
        rcases Nat.lt_or_ge i L0.length with h | h
        · rw [Em.lf_at h]
          simp only [hL0, List.getElem_map]
          exact Em.held_le _
        · simp [Em.lf, List.getD, List.getElem?_eq_none h]
      obtain ⟨fin, hfin⟩ : ∃ fin, fin = Em.outer l l.length 0 (L0, []) := ⟨_, rfl⟩
      have hres : Hid (fin.2 = Em.pairs l) := Lib.hid (by rw [hfin, hL0]; rfl)
      replace hfin := Lib.hid hfin
      replace hL0 := Lib.hid hL0
      go_wp2_with fail
      go_loopw [6, 26] (fun ov i wr => ∃ (k : Nat) (L : List Nat) (out : List (Nat × Nat × Nat)), k ≤ l.length ∧ i = .int .i64 k ∧ L.length = l.length ∧ Hid (wr.ownsRow w.heap.size 3 1 (.slice A1 l.length c1) l.length (lcells L)) ∧
          Hid (wr.ownsRow w.heap.size 50 3 ov out.length (pcells out)) ∧ Hid (Apart (.slice A1 l.length c1) ov) ∧ Below w.heap.size w wr ∧ Hid (Em.outer l (l.length - k) k (L, out) = fin) ∧ Hid (Em.Bd k (L, out)))
        (fun _ i _ => l.length - (intOf i).toNat)
      case atStart => exact ⟨0, L0, [], Nat.zero_le _, rfl, hL0l, Lib.hid hown, Lib.hid (World.ownsRow_nil _ _ _ _), Lib.hid (Apart.nil _).symm, hb, Lib.hid hfin.out.symm, Lib.hid ⟨hB0, by simp⟩⟩
      case round =>
        obtain ⟨k, L, out, hk, rfl, hLl, hoL, hoO, hap, hb, hfi, hbd⟩ := hrel
        clear hown hB0 hL0l hfin hL0
        by_cases hkl : k < l.length
        · have hbi := Lib.hid (Em.bd_in hbd.out)
          have hfi2 : Hid (Em.outer l (l.length - (k + 1)) (k + 1) (Em.inner l k (L, out)) = fin) := Lib.hid (by
            have h1 := hfi.out
            rw [show l.length - k = (l.length - (k + 1)) + 1 by omega] at h1
            exact h1)
          clear hfi hbd
          obtain ⟨b, o, rfl, hbb, hc⟩ := run_cell hR.out (by omega)
          have hRA : Hid (RunsAt l b o w) := Lib.hid ⟨hbb, hc⟩
          obtain ⟨g, rfl⟩ : ∃ g, A1 = some ⟨g, 0, none⟩ := by
            rcases hoL.out.2 with ⟨hv, h0⟩ | ⟨g, cap, cur, hv, _⟩
            · omega
            · injection hv with h1 _ _; exact ⟨g, h1⟩
          have hEA : Hid (EmAt w l.length g c1 L u6 out wr) := Lib.hid ⟨hoL.out, hoO.out, hap.out, hb, hLl⟩
          clear hc hoL hoO hap hbb
          go_wp2_with fail
          refine em_inner l b o c g c1 k w wr L u6 out hkl hl hRA.out hEA.out hbi.out _ _ _ _ _ _ _ _ _ _ _ _ _ _ _ _ _ _ _ _ _ _ _ _ _ _ _ _ _ _ _ _ _ _ _ _ _ _ _ _ _ _ _ _ _ _ _ _ _ _ _ _ _ _ _ _ _ _ _ _ _ _ _ _ _ _ _ _ _ _ _ _ _ _ _ _ _ _ _ _ _ _ _ _ _ _ _ _ _ _ _ _ _ _ _ _ _ _ _ _ _ _ _ _ _ _ _ _ _ _ _ _ _ _ _ _ _ _ _ _ _ _ _ _ _ _ _ _ _ _ _ _ _ _ (fun _ _ d _ _ h => by cases d <;> exact h) ?_
          intro v8 v9 v10 v29 v30 v31 v32 v33 v34 v35 v36 v37 v38 v39 v40 v41 v42 v43 v44 v45 v46 v47 v48 v49 v50 v51 v52 v53 v54 v55 v56 v57 v58 v59 v60 v61 v62 v63 v64 v65 v66 v67 v68 v69 v70 v71 v72 v73 v74 v75 v76 v77 v78 v79 v80 v81 v82 v83 v84 v85 v86 v87 v88 v89 v90 v91 v92 v93 v94 v95 v96 v97 v98 v99 v100 v101 v102 v103 v104 v105 v106 v107 v108 v109 v110 v111 v112 v113 v114 v115 v116 v117 v118 v119 v120 v121 v122 v123 v124 v125 v126 v127 v128 v129 v130 v131 v132 v133 v134 ov2 L2 out2 wq hE2 hin2 hbi2
          replace hE2 := Lib.hid hE2
          replace hin2 := Lib.hid hin2
          replace hbi2 := Lib.hid hbi2
          clear hEA hbi
          go_wp2_with fail
          go_roundw
          case rel => exact ⟨k + 1, L2, out2, hkl, by go_num, hE2.out.len, Lib.hid hE2.out.left, Lib.hid hE2.out.pairs, Lib.hid hE2.out.apart, hE2.out.below, Lib.hid (by rw [← hfi2.out, hin2.out]), Lib.hid (Em.bd_out hbi2.out)⟩
          case measure => simp [intOf] <;> omega
        · have hke : k = l.length := by omega
          subst hke
          have ho : out = Em.pairs l := by
            have h1 := hfi.out
            rw [Nat.sub_self] at h1
            rw [← hres.out, ← h1]; rfl
          subst ho
          go_wp2
          go_ret
          exact ⟨⟨_, rfl, hoO.out⟩, hb⟩

end Go.Proofs.YtboeaofcioolnaaDoor
