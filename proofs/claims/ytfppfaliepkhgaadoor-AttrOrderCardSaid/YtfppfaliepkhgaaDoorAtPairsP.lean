/- Package attr: all pairs of an info. -/
import Derived.Test.YtfppfaliepkhgaaDoorAtPairQ
import Derived.Test.YtfppfaliepkhgaaDoorAtPairsPM
namespace Go.Proofs.YtfppfaliepkhgaaDoor
open Go.RowKit

theorem av_shape (p : At.Pr) : ∃ t x, av p = .iface t x := by unfold av; split <;> exact ⟨_, _, rfl⟩
theorem own_grown {w w1 : World} {base : Nat} {e : TypeId} {size n : Nat} {v : Value} {xs : List Value} {row : Option Nat} (h : w.ownsRow base e size v n xs) (hg : w.grownBy w1 row) (hne : ∀ k, v.ownBlock = some k → row = some k → False) : w1.ownsRow base e size v n xs := by
  refine ⟨h.1, ?_⟩
  rcases h.2 with hn | ⟨g, cap, cur, rfl, hbg, hgg, rest⟩
  · exact .inl hn
  · exact .inr ⟨g, cap, cur, rfl, hbg, (hg.block g (Array.getElem?_eq_some_iff.1 hgg).1 (fun e => hne g rfl e.symm)).trans hgg, rest⟩
theorem grown_block {w w1 : World} {row : Option Nat} {g : Nat} {o : Obj} (h : w.grownBy w1 row) (hg : w.heap[g]? = some o) (hne : row ≠ some g) : w1.heap[g]? = some o :=
  (h.block g (Array.getElem?_eq_some_iff.1 hg).1 (fun e => hne e.symm)).trans hg

/-- how long a text is -/
def strLen : Value → Nat
  | .string b => b.size
  | _ => 0

set_option maxHeartbeats 8000000 in
set_option maxRecDepth 100000 in
theorem ppairs_any (l : List UInt8) (w : World) (hl : l.length ≤ 1000000000) :
    Calls Tryd.prog 16 #[.string (bs l)] w fun e w' => (∃ v, e = .returned (.tuple #[.string (bs (At.pairs l).1), v, .bool (At.pairs l).2.2]) ∧ w'.ownsRow w.heap.size 44 2 v (At.pairs l).2.1.length (qcells (At.pairs l).2.1)) ∧ Below w.heap.size w w' := by
  have hla := fun w => language_any l w hl
  obtain ⟨f0, first0, i0, h1, h2, h3, h4, h5⟩ := lang_start l
  obtain ⟨L, hL⟩ : ∃ L, (At.langOf (l.drop (Cl.gaps l))).1 = L := ⟨_, rfl⟩
  obtain ⟨R, hR⟩ : ∃ R, (At.langOf (l.drop (Cl.gaps l))).2 = R := ⟨_, rfl⟩
  rw [hL, hR] at hla
  rw [hR] at h3
  rw [hL] at h4
  clear hL hR
  have hun := ungap_any R
  rw [h3] at hun
  obtain ⟨j0, hj0⟩ : ∃ j, i0 + Cl.gaps (l.drop i0) = j := ⟨_, rfl⟩
  rw [hj0] at hun h5
  have hjl : j0 ≤ l.length := by have := Cl.gaps_le (l.drop i0); rw [List.length_drop] at this; omega
  replace hj0 := Lib.hid hj0
  replace h4 := Lib.hid h4
  replace h5 := Lib.hid h5
  clear h3
  have hmm := @run_makeMap Tryd.prog
  go_enter Tryd.func16, Tryd.ntmps16
  go_wp2_with fail
  refine (hla _).mono ?_
  rintro e w1 ⟨rfl, hb1⟩
  replace hb1 := Lib.hid hb1
  go_wp2_with fail
  refine (hun _).mono ?_
  rintro e w2 ⟨rfl, hb2⟩
  have hm2 : w2.ownsMap Tryd.prog 9 unitElem w1.heap.size 0 (keySet []) := map_ext (World.ownsMap_made w1 Tryd.prog 9 unitElem) hb2
  have hM1 : w.heap.size ≤ w1.heap.size := hb1.out.size
  have hb3 := Lib.hid (ext_trans (ext_trans hb1.out (ext_alloc _ _)) hb2)
  obtain ⟨M, hM⟩ : ∃ M, w1.heap.size = M := ⟨_, rfl⟩
  rw [hM] at hm2 hM1 ⊢
  clear hM hb1 hb2 hun hla
  go_wp2_with fail
  go_loopw [6, 7] (fun vr vo wr => ∃ (f : Nat) (first : Bool) (out : List At.Pr) (i j : Nat), i ≤ j ∧ j ≤ l.length ∧ l.length + 1 ≤ f + i ∧ out.length ≤ i ∧ vr = .string (bs (l.drop j)) ∧ wr.ownsRow (M + 1) 44 2 vo out.length (qcells out) ∧ wr.ownsMap Tryd.prog 9 unitElem M out.length (keySet out) ∧
      Hid (i + Cl.gaps (l.drop i) = j) ∧ Hid (At.prs l f first L out i = At.pairs l) ∧ Hid (l.drop j ≠ [] → At.isLang first (At.tw At.word (l.drop j)) = false) ∧ Below w.heap.size w wr) (fun vr _ _ => strLen vr)
  case atStart => exact ⟨f0, first0, [], i0, j0, by have := hj0.out; omega, hjl, h1, by simp, rfl, World.ownsRow_nil _ _ _ _, hm2, hj0, h4, h5, hb3.out⟩
  case round =>
    obtain ⟨f, first, out, i, j, hij, hj, hfu, hoi, rfl, hown, hmap, hgj, hp, hlg, hb⟩ := hrel
    obtain ⟨f, rfl⟩ : ∃ g, f = g + 1 := ⟨f - 1, by omega⟩
    have hlt := hmap.lt
    by_cases hT : l.drop j = []
    · have hfin : Hid (At.pairs l = (L, out, true)) := Lib.hid (by rw [← hp.out]; exact At.prs_done hgj.out hT)
      rw [hT]
      have ht := text_nil
      clear hT
      go_wp2_with fail
      go_returns
      exact ⟨⟨_, by rw [hfin.out]; rfl, by rw [hfin.out]; exact own_base hown (by omega)⟩, hb⟩
    · have hL := hlg.out hT
      have hpb := @At.prs_bad l f first L out i j hgj.out hT hL
      have hpt := @At.prs_twice l f first L out i j hgj.out hT hL
      have hpm := @At.prs_more l f first L out i j hgj.out hT hL
      have hpw := @At.pair_within (l.drop j) j
      obtain ⟨s1, s2, s3⟩ := At.pair_shift (l.drop j) j
      rw [List.length_drop] at hpw
      rw [s2] at hpb hpt hpm hpw
      have hTl : (l.drop j).length ≤ l.length := by rw [List.length_drop]; omega
      have hpc := fun w => ppair_any (l.drop j) w (by omega)
      have hTln : Hid ((l.drop j).length = l.length - j) := Lib.hid (List.length_drop ..)
      have ht : (bs (l.drop j)).toList.isEmpty = false := by
        rcases hq : l.drop j with _ | ⟨b, r⟩
        · exact absurd hq hT
        · exact text_cons b r
      have hdd : ∀ m, (l.drop j).drop m = l.drop (j + m) := fun m => List.drop_drop ..
      obtain ⟨T, hTT⟩ : ∃ T, l.drop j = T := ⟨_, rfl⟩
      rw [hTT] at hpc ht hdd s1 s3 hpb hpt hpm hpw hTl hTln ⊢
      obtain ⟨P, hP⟩ : ∃ P, At.pair T 0 = P := ⟨_, rfl⟩
      rw [hP] at hpc s1 s3 hpb hpt hpm hpw
      obtain ⟨p, te, ok⟩ := P
      obtain ⟨Pj, hPj⟩ : ∃ P, At.pair T j = P := ⟨_, rfl⟩
      rw [hPj] at s1 s3 hpt hpm hpw
      simp only at s1 s3 hpb hpt hpm hpw
      replace hdd := Lib.hid hdd
      replace hpb := Lib.hid hpb
      replace hpt := Lib.hid hpt
      replace hpm := Lib.hid hpm
      replace hpw := Lib.hid hpw
      replace s1 := Lib.hid s1
      replace s3 := Lib.hid s3
      replace hmap := Lib.hid hmap
      replace hown := Lib.hid hown
      obtain ⟨A, c, rfl, hlc⟩ := own_shape hown.out
      clear hT hL hTT hP hPj s2 hgj hlg h4 h5 hj0
      go_wp2_with fail
      refine (hpc _).mono ?_
      rintro e w4 ⟨⟨k, v, r, rfl, hkv, hkl, hvs⟩, hb4⟩
      have hmap4 := map_ext hmap.out hb4
      have hlt4 := hmap4.lt
      have hown4 := own_below hown.out hb4
      have hB4 := Lib.hid (hb.trans (hb4.mono hb.size))
      have hkey : keyOf Tryd.prog 9 (.string (bs k)) = some (.string k) := WideMaps.keyOf_string_mk Tryd.underlying9 (by rw [bs_size]; unfold maxLen; omega)
      obtain ⟨tw, htw⟩ : ∃ t, Maps.has (keySet out) (.string k) = t := ⟨_, rfl⟩
      replace hkv := Lib.hid hkv
      replace hmap4 := Lib.hid hmap4
      replace hown4 := Lib.hid hown4
      clear hb4 hpc hmap hown
      cases ok with
      | false =>
        have hfin : Hid (At.pairs l = ([], [], false)) := Lib.hid (hp.out.symm.trans (hpb.out rfl))
        clear hp hpb hpt hpm hpw s1 s3 hkv
        rcases hvs with rfl | ⟨vt, vx, rfl⟩
        all_goals
          go_wp2_with (at_lookup; refine wpList_lookup_own_unit _ rfl _ _ 60 rfl 9 63 strLaw Tryd.underlying60 (zeroUnit _) M out.length (keySet out) rfl (hmap4.out.alloc _) _ _ rfl hkey ?_; rw [htw])
          go_returns
          exact ⟨⟨_, by rw [hfin.out]; rfl, by rw [hfin.out]; exact World.ownsRow_nil _ _ _ _⟩, (hB4.out.alloc hB4.out.size _).alloc (by have := hB4.out.size; simp; omega) _⟩
      | true =>
        obtain ⟨e1, e2, e3⟩ := hkv.out rfl
        obtain ⟨vt, vx, hav⟩ := av_shape p
        rw [hav] at e2
        subst e1 e2
        clear hvs hkv hpb
        have htw2 : tw = At.twice out p.key := by rw [← htw, keySet_has]
        cases tw with
        | true =>
          have hfin : Hid (At.pairs l = ([], [], false)) := Lib.hid (hp.out.symm.trans (hpt.out rfl (by rw [s1.out, ← htw2])))
          clear hp hpt hpm hpw s1 s3 e3 htw2 hav
          go_wp2_with (at_lookup; refine wpList_lookup_own_unit _ rfl _ _ 60 rfl 9 63 strLaw Tryd.underlying60 (zeroUnit _) M out.length (keySet out) rfl (hmap4.out.alloc _) _ _ rfl hkey ?_; rw [htw])
          go_returns
          exact ⟨⟨_, by rw [hfin.out]; rfl, by rw [hfin.out]; exact World.ownsRow_nil _ _ _ _⟩, (hB4.out.alloc hB4.out.size _).alloc (by have := hB4.out.size; simp; omega) _⟩
        | false =>
          have hp2 : Hid (At.prs l f false L (out ++ [p]) (j + te) = At.pairs l) := Lib.hid (by
            have := hpm.out rfl (by rw [s1.out, ← htw2])
            rw [s1.out, s3.out rfl] at this
            exact this.symm.trans hp.out)
          have hjt : j < j + te ∧ j + te ≤ l.length := by
            have := hpw.out rfl
            rw [s3.out rfl] at this; omega
          have hr : r = l.drop (j + te) := by rw [e3, hdd.out]
          clear e3
          subst hr
          have hun := ungap_any (l.drop (j + te))
          rw [List.drop_drop] at hun
          have hgl := Cl.gaps_le (l.drop (j + te))
          rw [List.length_drop] at hgl
          clear hp hpt hpm hpw s1 s3 htw2 hdd
          go_wp2_with (first
            | (at_lookup; refine wpList_lookup_own_unit _ rfl _ _ 60 rfl 9 63 strLaw Tryd.underlying60 (zeroUnit _) M out.length (keySet out) rfl (hmap4.out.alloc _) _ _ rfl hkey ?_; rw [htw])
            | (at_mapUpdate; refine wpList_mapUpdate_own _ rfl _ _ _ 60 rfl 9 63 strLaw Tryd.underlying60 (unitElem (H := Unit)) M out.length _ rfl ((hmap4.out.alloc _).alloc _) (by unfold maxLen; omega) _ _ _ rfl rfl hkey _ [] unitElem_mk ?_; intro w6 hmap6 hg6
               have hz6 := hg6.size
               simp at hz6
               have q6 := grown_block hg6 (blk_one w4 _ _) (fun h => by cases h; omega)
               obtain ⟨q60, q61⟩ := two q6
               have hown6 := own_grown ((hown4.out.alloc _).alloc _) hg6 (fun k h1 h2 => by cases h2; exact absurd h1 (own_ne_lt hown4.out (Nat.lt_succ_self M)))
               have hB6 := Lib.hid (((hB4.out.alloc hB4.out.size _).alloc (by have := hB4.out.size; simp; omega) _).grown hg6 (by have := hB4.out.size; simp; omega) (fun k hk => by cases hk; exact hM1))
               replace hmap6 := Lib.hid hmap6
               replace hown6 := Lib.hid hown6
               clear hg6 q6)
            | (at_builtin; refine wpList_app_new rfl (.tmp 48) (.tmp 50) rfl qpairEI rfl hown6.out rfl rfl rfl (by simp; exact ⟨rfl, rfl⟩) (by omega) (by omega) (by omega) ?_; intro v7 w7 hown7 hg7 hb7))
          refine (hun _).mono ?_
          rintro e w8 ⟨rfl, hb8⟩
          have hB8 := Lib.hid ((hB6.out.trans (hb7.mono (by omega))).trans (hb8.mono (by have := hB6.out.size; have := hb7.size; omega)))
          have hmap8 := Lib.hid ((map_ext (hmap6.out.kept hg7.out (Ne.symm (own_ne_lt hown6.out (Nat.lt_succ_self M)))) hb8).mono (show out.length + 1 ≤ (out ++ [p]).length by simp))
          have hown8 := Lib.hid (own_below hown7 hb8)
          clear hmap6 hown6 hB6 hown7 hg7 hb7 hb8
          go_wp2_with fail
          go_roundw
          case rel =>
            refine ⟨f, false, out ++ [p], j + te, j + te + Cl.gaps (l.drop (j + te)), by omega, by omega, by omega, by simp; omega, rfl, ?_, ?_, Lib.hid rfl, hp2, Lib.hid (fun _ => rfl), hB8.out⟩
            · have := hown8.out
              rw [List.length_append]
              simpa [qcells, hav] using this
            · rw [keySet_more]; exact hmap8.out
          case measure => simp only [strLen, bs_size, List.length_drop]; rw [hTln.out]; omega
end Go.Proofs.YtfppfaliepkhgaaDoor
