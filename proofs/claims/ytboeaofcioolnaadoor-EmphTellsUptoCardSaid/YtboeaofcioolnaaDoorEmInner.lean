/- The document's own pairs of runs: one that closes, all its pairs. -/
import Derived.Test.YtboeaofcioolnaaDoorEmStores
namespace Go.Proofs.YtboeaofcioolnaaDoor
open Go.RowKit
attribute [local go_sem] canOp readsAs readUpon

theorem pcells_snoc (out : List (Nat × Nat × Nat)) (x : Nat × Nat × Nat) : pcells (out ++ [x]) = pcells out ++ pcell x := by simp [pcells]
/-- what the loop keeps -/
def InAt (l : List Em.R) (w0 : World) (g c1 k : Nat) (fin : Em.St) (ov : Value) (wr : World) : Prop :=
  ∃ (L : List Nat) (out : List (Nat × Nat × Nat)), Hid (EmAt w0 l.length g c1 L ov out wr) ∧ Hid (Em.inner l k (L, out) = fin) ∧ Hid (Em.Bi k (L, out))

set_option maxHeartbeats 8000000 in
set_option maxRecDepth 100000 in
theorem em_inner (l : List Em.R) (b o c g c1 k : Nat) (w0 wi : World) (L0 : List Nat) (ov0 : Value) (out0 : List (Nat × Nat × Nat)) (hkl : k < l.length) (hlen : l.length ≤ 1000000) (hR : RunsAt l b o w0) (hM : EmAt w0 l.length g c1 L0 ov0 out0 wi) (hB0 : Em.Bi k (L0, out0))
    (s1 s2 s4 s5 s8 s9 s10 s11 s12 s13 s14 s15 s16 s17 s18 s19 s20 s21 s22 s23 s24 s25 s26 s27 s28 s29 s30 s31 s32 s33 s34 s35 s36 s37 s38 s39 s40 s41 s42 s43 s44 s45 s46 s47 s48 s49 s50 s51 s52 s53 s54 s55 s56 s57 s58 s59 s60 s61 s62 s63 s64 s65 s66 s67 s68 s69 s70 s71 s72 s73 s74 s75 s76 s77 s78 s79 s80 s81 s82 s83 s84 s85 s86 s87 s88 s89 s90 s91 s92 s93 s94 s95 s96 s97 s98 s99 s100 s101 s102 s103 s104 s105 s106 s107 s108 s109 s110 s111 s112 s113 s114 s115 s116 s117 s118 s119 s120 s121 s122 s123 s124 s125 s126 s127 s128 s129 s130 s131 s132 s133 s134 s135 s136 : Value) (Q0 : Exit → Act → World → Prop) (hpan : ∀ c a d v w, Q0 (.panic c) (Act.put a d v) w → Q0 (.panic c) a w)
    (hexit : ∀ (u8 u9 u10 u29 u30 u31 u32 u33 u34 u35 u36 u37 u38 u39 u40 u41 u42 u43 u44 u45 u46 u47 u48 u49 u50 u51 u52 u53 u54 u55 u56 u57 u58 u59 u60 u61 u62 u63 u64 u65 u66 u67 u68 u69 u70 u71 u72 u73 u74 u75 u76 u77 u78 u79 u80 u81 u82 u83 u84 u85 u86 u87 u88 u89 u90 u91 u92 u93 u94 u95 u96 u97 u98 u99 u100 u101 u102 u103 u104 u105 u106 u107 u108 u109 u110 u111 u112 u113 u114 u115 u116 u117 u118 u119 u120 u121 u122 u123 u124 u125 u126 u127 u128 u129 u130 u131 u132 u133 u134 : Value) (ov : Value) (L : List Nat) (out : List (Nat × Nat × Nat)) (wq : World), EmAt w0 l.length g c1 L ov out wq → Em.inner l k (L0, out0) = (L, out) → Em.Bi k (L, out) → Q0 (.exit 4) ⟨(.slice (some ⟨b, o, none⟩) l.length c :: s1 :: s2 :: .slice (some ⟨g, 0, none⟩) l.length c1 :: s4 :: s5 :: ov :: .int .i64 (k : Int) :: u8 :: u9 :: u10 :: s11 :: s12 :: s13 :: s14 :: s15 :: s16 :: s17 :: s18 :: s19 :: s20 :: s21 :: s22 :: s23 :: s24 :: s25 :: s26 :: s27 :: s28 :: u29 :: u30 :: u31 :: u32 :: u33 :: u34 :: u35 :: u36 :: u37 :: u38 :: u39 :: u40 :: u41 :: u42 :: u43 :: u44 :: u45 :: u46 :: u47 :: u48 :: u49 :: u50 :: u51 :: u52 :: u53 :: u54 :: u55 :: u56 :: u57 :: u58 :: u59 :: u60 :: u61 :: u62 :: u63 :: u64 :: u65 :: u66 :: u67 :: u68 :: u69 :: u70 :: u71 :: u72 :: u73 :: u74 :: u75 :: u76 :: u77 :: u78 :: u79 :: u80 :: u81 :: u82 :: u83 :: u84 :: u85 :: u86 :: u87 :: u88 :: u89 :: u90 :: u91 :: u92 :: u93 :: u94 :: u95 :: u96 :: u97 :: u98 :: u99 :: u100 :: u101 :: u102 :: u103 :: u104 :: u105 :: u106 :: u107 :: u108 :: u109 :: u110 :: u111 :: u112 :: u113 :: u114 :: u115 :: u116 :: u117 :: u118 :: u119 :: u120 :: u121 :: u122 :: u123 :: u124 :: u125 :: u126 :: u127 :: u128 :: u129 :: u130 :: u131 :: u132 :: u133 :: u134 :: s135 :: s136 :: []).toArray, []⟩ wq) :
    Code.wp Tryd.prog (Code.loop (loopBody Tryd.f15 2)) Q0 ⟨(.slice (some ⟨b, o, none⟩) l.length c :: s1 :: s2 :: .slice (some ⟨g, 0, none⟩) l.length c1 :: s4 :: s5 :: ov0 :: .int .i64 (k : Int) :: s8 :: s9 :: s10 :: s11 :: s12 :: s13 :: s14 :: s15 :: s16 :: s17 :: s18 :: s19 :: s20 :: s21 :: s22 :: s23 :: s24 :: s25 :: s26 :: s27 :: s28 :: s29 :: s30 :: s31 :: s32 :: s33 :: s34 :: s35 :: s36 :: s37 :: s38 :: s39 :: s40 :: s41 :: s42 :: s43 :: s44 :: s45 :: s46 :: s47 :: s48 :: s49 :: s50 :: s51 :: s52 :: s53 :: s54 :: s55 :: s56 :: s57 :: s58 :: s59 :: s60 :: s61 :: s62 :: s63 :: s64 :: s65 :: s66 :: s67 :: s68 :: s69 :: s70 :: s71 :: s72 :: s73 :: s74 :: s75 :: s76 :: s77 :: s78 :: s79 :: s80 :: s81 :: s82 :: s83 :: s84 :: s85 :: s86 :: s87 :: s88 :: s89 :: s90 :: s91 :: s92 :: s93 :: s94 :: s95 :: s96 :: s97 :: s98 :: s99 :: s100 :: s101 :: s102 :: s103 :: s104 :: s105 :: s106 :: s107 :: s108 :: s109 :: s110 :: s111 :: s112 :: s113 :: s114 :: s115 :: s116 :: s117 :: s118 :: s119 :: s120 :: s121 :: s122 :: s123 :: s124 :: s125 :: s126 :: s127 :: s128 :: s129 :: s130 :: s131 :: s132 :: s133 :: s134 :: s135 :: s136 :: []).toArray, []⟩ wi := by
  replace hexit := Lib.hid hexit
  replace hR := Lib.hid hR
  replace hM := Lib.hid hM
  replace hB0 := Lib.hid hB0
  replace hpan := Lib.hid hpan
  obtain ⟨fin, hfin⟩ : ∃ fin, fin = Em.inner l k (L0, out0) := ⟨_, rfl⟩
  rw [← hfin] at hexit
  have hIn : InAt l w0 g c1 k fin ov0 wi := ⟨L0, out0, hM, Lib.hid hfin.symm, hB0⟩
  clear hfin hM hB0
  conv => arg 2; arg 1; whnf
  go_loopw [6] (fun ov wr => InAt l w0 g c1 k fin ov wr) (fun _ wr => match wr.cell? ⟨g, k, none⟩ with | some (.int _ n) => n.toNat | _ => 0)
  case atStart => exact hIn
  case round =>
    clear hIn
    obtain ⟨L, out, hA, hfi, hbi⟩ := hrel
    have hRr := Lib.hid (hR.out.ext hA.out.below)
    obtain ⟨x0, x1, x2, d3⟩ := hRr.out.2 k hkl
    clear x0 x1 x2
    have hbw := hRr.out.1
    have hgw := hA.out.lt.2
    have hLl := hA.out.len
    have hLk : k < L.length := by omega
    have e1 := hA.out.leftAt.2 k hLk
    have hgk : Em.get l k = l[k] := Em.get_at hkl
    have hlfk : Em.lf L k = L[k] := Em.lf_at hLk
    cases hcl : l[k].c with
    | false =>
      rw [hcl] at d3
      have hst : Hid (Em.inner l k (L, out) = (L, out)) := Lib.hid (Em.inner_stop (fun h => by rw [hgk, hcl] at h; exact absurd h.1 (by decide)))
      clear hgk hlfk
      go_wp2_with fail
      exact hexit.out _ _ _ _ _ _ _ _ _ _ _ _ _ _ _ _ _ _ _ _ _ _ _ _ _ _ _ _ _ _ _ _ _ _ _ _ _ _ _ _ _ _ _ _ _ _ _ _ _ _ _ _ _ _ _ _ _ _ _ _ _ _ _ _ _ _ _ _ _ _ _ _ _ _ _ _ _ _ _ _ _ _ _ _ _ _ _ _ _ _ _ _ _ _ _ _ _ _ _ _ _ _ _ _ _ _ _ _ _ _ L out _ hA.out (by rw [← hfi.out, hst.out]) hbi.out
    | true =>
      rw [hcl] at d3
      rcases Nat.eq_zero_or_pos L[k] with h0 | h0
      · have hst : Hid (Em.inner l k (L, out) = (L, out)) := Lib.hid (Em.inner_stop (fun h => by have := h.2; simp only at this; omega))
        rw [h0] at e1
        clear hgk hlfk
        go_wp2_with fail
        exact hexit.out _ _ _ _ _ _ _ _ _ _ _ _ _ _ _ _ _ _ _ _ _ _ _ _ _ _ _ _ _ _ _ _ _ _ _ _ _ _ _ _ _ _ _ _ _ _ _ _ _ _ _ _ _ _ _ _ _ _ _ _ _ _ _ _ _ _ _ _ _ _ _ _ _ _ _ _ _ _ _ _ _ _ _ _ _ _ _ _ _ _ _ _ _ _ _ _ _ _ _ _ _ _ _ _ _ _ _ _ _ _ L out _ hA.out (by rw [← hfi.out, hst.out]) hbi.out
      · have hpos : (0 : Int) < (L[k] : Int) := by omega
        have hinc : Hid ((Em.get l k).c = true) := Lib.hid (by rw [hgk, hcl])
        have hpk : Hid (0 < Em.lf L k) := Lib.hid (by rw [hlfk]; exact h0)
        clear hgk hlfk
        go_wp2_with fail
        refine em_search l L b o c g c1 k _ hkl hLl hlen hRr.out hA.out.leftAt _ _ _ _ _ _ _ _ _ _ _ _ _ _ _ _ _ _ _ _ _ _ _ _ _ _ _ _ _ _ _ _ _ _ _ _ _ _ _ _ _ _ _ _ _ _ _ _ _ _ _ _ _ _ _ _ _ _ _ _ _ _ _ _ _ _ _ _ _ _ _ _ _ _ _ _ _ _ _ _ _ _ _ _ _ _ _ _ _ _ _ _ _ _ _ _ _ _ _ _ _ _ _ _ _ _ _ _ _ _ _ _ _ _ _ _ _ _ _ _ _ _ _ _ _ _ _ _ _ _ _ _ _ _ (fun _ _ _ _ _ h => hpan.out _ _ _ _ _ h) ?_
        intro v43 v44 v45 v46 v47 v48 v49 v50 v51 v52 v53 v54 v55 v56 v57 v58 v59 v60 v61 v62 v63 v64 v65 v66 v67 v68 v69 v70 v71 v72 v73 v74 v75 v76 v77 v78 v79 v80 v81 v82 v83 v84 v85 z wq hbq hfound
        replace hbq := Lib.hid hbq
        rcases hfound with ⟨rfl, hno⟩ | ⟨i, rfl, hik, hyes⟩
        · have hst : Hid (Em.inner l k (L, out) = (L, out)) := Lib.hid (Em.inner_none hno)
          clear hno d3 e1
          go_wp2_with fail
          exact hexit.out _ _ _ _ _ _ _ _ _ _ _ _ _ _ _ _ _ _ _ _ _ _ _ _ _ _ _ _ _ _ _ _ _ _ _ _ _ _ _ _ _ _ _ _ _ _ _ _ _ _ _ _ _ _ _ _ _ _ _ _ _ _ _ _ _ _ _ _ _ _ _ _ _ _ _ _ _ _ _ _ _ _ _ _ _ _ _ _ _ _ _ _ _ _ _ _ _ _ _ _ _ _ _ _ _ _ _ _ _ _ L out _ (hA.out.ext hbq.out) (by rw [← hfi.out, hst.out]) hbi.out
        · have hA2 := Lib.hid (hA.out.ext hbq.out)
          have hiL : i < L.length := by omega
          have y1 := hA2.out.leftAt.2 i hiL
          have y2 := hA2.out.leftAt.2 k hLk
          have hgw2 := hA2.out.lt.2
          have hz2 := hA2.out.below.size
          have hil : i < l.length := by omega
          obtain ⟨hio, hiok⟩ := Em.opener_spec _ hyes
          have hlfi : Em.lf L i = L[i] := Em.lf_at hiL
          have hlfk : Em.lf L k = L[k] := Em.lf_at hLk
          have hpi : 0 < L[i] := by
            simp only [Em.ok, Bool.and_eq_true, decide_eq_true_eq] at hiok
            rw [← hlfi]; exact hiok.1.2
          have hb100 := hbi.out.1
          have hli100 : L[i] ≤ 100 := by rw [← hlfi]; exact hb100 i
          have hlk100 : L[k] ≤ 100 := by rw [← hlfk]; exact hb100 k
          have hol : out.length ≤ 100 * 1000001 := by have := hbi.out.2; simp only at this; omega
          have hstep : Hid (Em.inner l k (L, out) = Em.inner l k (Em.lower L i k (Em.size L i k), out ++ [(i, k, Em.size L i k)])) := Lib.hid (Em.inner_step hinc.out hpk.out hyes)
          have hbi2 : Hid (Em.Bi k (Em.lower L i k (Em.size L i k), out ++ [(i, k, Em.size L i k)])) := Lib.hid (Em.bi_step hbi.out hpk.out)
          have hwz : Hid (∀ s, Em.wiped L i k s (i + 1) = (L.set i (L[i] - s)).set k (L[k] - s)) := Lib.hid (fun s => by rw [Em.wiped_zero hik (by omega), hlfi, hlfk])
          have hszd : Hid (Em.size L i k = if 1 < L[i] ∧ 1 < L[k] then 2 else 1) := Lib.hid (by unfold Em.size; rw [hlfi, hlfk])
          have hmz : Hid ((match wr.cell? ⟨g, k, none⟩ with | some (.int _ n) => n.toNat | _ => 0) = L[k]) := Lib.hid (by rw [e1]; simp)
          have hlow : Hid (∀ s, 1 ≤ s → Em.lf (Em.lower L i k s) k < L[k]) := Lib.hid (fun s hs => by rw [Em.lf_lower_c hpk.out, hlfk]; omega)
          clear hio hiok hlfi hlfk hb100 hyes e1 d3 hLl hgw
          obtain ⟨wo, rfl⟩ : ∃ wo : World, wo = wr := ⟨_, rfl⟩
          have hcase : (¬ 1 < L[i] ∧ Em.size L i k = 1) ∨ (1 < L[i] ∧ ¬ 1 < L[k] ∧ Em.size L i k = 1) ∨ (1 < L[i] ∧ 1 < L[k] ∧ Em.size L i k = 2) := by
            by_cases q1 : 1 < L[i]
            · by_cases q2 : 1 < L[k]
              · exact .inr (.inr ⟨q1, q2, by rw [hszd.out, if_pos ⟨q1, q2⟩]⟩)
              · exact .inr (.inl ⟨q1, q2, by rw [hszd.out, if_neg (by omega)]⟩)
            · exact .inl ⟨q1, by rw [hszd.out, if_neg (by omega)]⟩
          have hnz : (i : Int) < (k : Int) := by omega
          rcases hcase with ⟨q1, hsz⟩ | ⟨q1, q2, hsz⟩ | ⟨q1, q2, hsz⟩
          · rw [hsz] at hstep hbi2
            replace hsz := Lib.hid hsz
            go_wp2_with (at_builtin; refine wpList_app_two rfl (.tmp 100) (.tmp 105) rfl pairEI rfl hA2.out.pairs rfl (by simp) rfl (by intro u hu; simp at hu; rcases hu with rfl | rfl | rfl <;> rfl) (by omega) (by omega) (by omega) ?_; intro ov7 w7 ho7 hg7 hb7 hat7)
            have hA7 := (hA2.out.push (x := (i, k, 1)) ho7 rfl hg7.out hb7 hat7.out)
            have y7 := hA7.leftAt.2 i hiL
            have z7 := hA7.leftAt.2 k hLk
            have fz1 := hA7.fz i
            have fz2 := hA7.fz k
            have gw7 := hA7.lt.2
            have hA8 := ((hA7.set i (L[i] - 1)).set k (L[k] - 1)).ext (ext_drew _)
            rw [← hwz.out, show ((L[i] - 1 : Nat) : Int) = (L[i] : Int) - 1 from by omega, show ((L[k] - 1 : Nat) : Int) = (L[k] : Int) - 1 from by omega] at hA8
            replace hA8 := Lib.hid hA8
            replace hA7 := Lib.hid hA7
            have hwr1 : IntKind.i64.wrap ((L[i] : Int) - 1) = (L[i] : Int) - 1 := by rw [IntKind.wrap_i64]; omega
            have hwr2 : IntKind.i64.wrap ((L[k] : Int) - 1) = (L[k] : Int) - 1 := by rw [IntKind.wrap_i64]; omega
            have hgt2 := hlow.out 1 (by omega)
            clear y1 y2
            go_wp2_with fail
            refine em_stores1 w7 l.length g c1 k i L[i] L[k] (by omega) hkl hlk100 hli100 y7 z7 fz1 fz2 (by omega) (by omega) (by omega) _ _ _ _ _ _ _ _ _ _ _ _ _ _ _ _ _ _ _ _ _ _ _ _ _ _ _ _ _ _ _ _ _ _ _ _ _ _ _ _ _ _ _ _ _ _ _ _ _ _ _ _ _ _ _ _ _ _ _ _ _ _ _ _ _ _ _ _ _ _ _ _ _ _ _ _ _ _ _ _ _ _ _ _ _ _ _ _ _ _ _ _ _ _ _ _ _ _ _ _ _ _ _ _ _ _ _ _ _ _ _ _ _ _ _ _ _ _ _ _ _ _ _ _ _ _ _ _ _ _ _ _ _ _ (fun _ _ _ _ _ h => hpan.out _ _ _ _ _ h) ?_
            intro v107 v108 v109 v110 v111 v112 v113 v114 v115 v116 v117 v118 v119 v120 v121 v122 v123 v124 w8 hw8
            rw [← hw8] at hA8
            clear hw8 y7 z7 fz1 fz2 gw7
            go_wp2_with fail
            refine em_wipe w0 _ l.length g c1 k i 1 L ov7 (out ++ [(i, k, 1)]) hik hkl hlen hA8.out _ _ _ _ _ _ _ _ _ _ _ _ _ _ _ _ _ _ _ _ _ _ _ _ _ _ _ _ _ _ _ _ _ _ _ _ _ _ _ _ _ _ _ _ _ _ _ _ _ _ _ _ _ _ _ _ _ _ _ _ _ _ _ _ _ _ _ _ _ _ _ _ _ _ _ _ _ _ _ _ _ _ _ _ _ _ _ _ _ _ _ _ _ _ _ _ _ _ _ _ _ _ _ _ _ _ _ _ _ _ _ _ _ _ _ _ _ _ _ _ _ _ _ _ _ _ _ _ _ _ _ _ _ _ _ ?_
            intro v127 v128 v129 v130 v131 v132 v133 v134 wz hAz
            have hmz2 := left_cell hAz.left (k := k) (by rw [Em.lower_len]; omega)
            replace hAz := Lib.hid hAz
            go_wp2_with fail
            go_roundw
            case rel => exact ⟨_, _, hAz, Lib.hid (by rw [← hfi.out, hstep.out]), hbi2⟩
            case measure =>
              rw [hmz.out, hmz2]
              have := Em.lf_at (L := Em.lower L i k 1) (i := k) (by rw [Em.lower_len]; omega)
              simp only
              omega
          · rw [hsz] at hstep hbi2
            replace hsz := Lib.hid hsz
            go_wp2_with (at_builtin; refine wpList_app_two rfl (.tmp 100) (.tmp 105) rfl pairEI rfl hA2.out.pairs rfl (by simp) rfl (by intro u hu; simp at hu; rcases hu with rfl | rfl | rfl <;> rfl) (by omega) (by omega) (by omega) ?_; intro ov7 w7 ho7 hg7 hb7 hat7)
            have hA7 := (hA2.out.push (x := (i, k, 1)) ho7 rfl hg7.out hb7 hat7.out)
            have y7 := hA7.leftAt.2 i hiL
            have z7 := hA7.leftAt.2 k hLk
            have fz1 := hA7.fz i
            have fz2 := hA7.fz k
            have gw7 := hA7.lt.2
            have hA8 := ((hA7.set i (L[i] - 1)).set k (L[k] - 1)).ext (ext_drew _)
            rw [← hwz.out, show ((L[i] - 1 : Nat) : Int) = (L[i] : Int) - 1 from by omega, show ((L[k] - 1 : Nat) : Int) = (L[k] : Int) - 1 from by omega] at hA8
            replace hA8 := Lib.hid hA8
            replace hA7 := Lib.hid hA7
            have hwr1 : IntKind.i64.wrap ((L[i] : Int) - 1) = (L[i] : Int) - 1 := by rw [IntKind.wrap_i64]; omega
            have hwr2 : IntKind.i64.wrap ((L[k] : Int) - 1) = (L[k] : Int) - 1 := by rw [IntKind.wrap_i64]; omega
            have hgt2 := hlow.out 1 (by omega)
            clear y1 y2
            go_wp2_with fail
            refine em_stores1 w7 l.length g c1 k i L[i] L[k] (by omega) hkl hlk100 hli100 y7 z7 fz1 fz2 (by omega) (by omega) (by omega) _ _ _ _ _ _ _ _ _ _ _ _ _ _ _ _ _ _ _ _ _ _ _ _ _ _ _ _ _ _ _ _ _ _ _ _ _ _ _ _ _ _ _ _ _ _ _ _ _ _ _ _ _ _ _ _ _ _ _ _ _ _ _ _ _ _ _ _ _ _ _ _ _ _ _ _ _ _ _ _ _ _ _ _ _ _ _ _ _ _ _ _ _ _ _ _ _ _ _ _ _ _ _ _ _ _ _ _ _ _ _ _ _ _ _ _ _ _ _ _ _ _ _ _ _ _ _ _ _ _ _ _ _ _ (fun _ _ _ _ _ h => hpan.out _ _ _ _ _ h) ?_
            intro v107 v108 v109 v110 v111 v112 v113 v114 v115 v116 v117 v118 v119 v120 v121 v122 v123 v124 w8 hw8
            rw [← hw8] at hA8
            clear hw8 y7 z7 fz1 fz2 gw7
            go_wp2_with fail
            refine em_wipe w0 _ l.length g c1 k i 1 L ov7 (out ++ [(i, k, 1)]) hik hkl hlen hA8.out _ _ _ _ _ _ _ _ _ _ _ _ _ _ _ _ _ _ _ _ _ _ _ _ _ _ _ _ _ _ _ _ _ _ _ _ _ _ _ _ _ _ _ _ _ _ _ _ _ _ _ _ _ _ _ _ _ _ _ _ _ _ _ _ _ _ _ _ _ _ _ _ _ _ _ _ _ _ _ _ _ _ _ _ _ _ _ _ _ _ _ _ _ _ _ _ _ _ _ _ _ _ _ _ _ _ _ _ _ _ _ _ _ _ _ _ _ _ _ _ _ _ _ _ _ _ _ _ _ _ _ _ _ _ _ ?_
            intro v127 v128 v129 v130 v131 v132 v133 v134 wz hAz
            have hmz2 := left_cell hAz.left (k := k) (by rw [Em.lower_len]; omega)
            replace hAz := Lib.hid hAz
            go_wp2_with fail
            go_roundw
            case rel => exact ⟨_, _, hAz, Lib.hid (by rw [← hfi.out, hstep.out]), hbi2⟩
            case measure =>
              rw [hmz.out, hmz2]
              have := Em.lf_at (L := Em.lower L i k 1) (i := k) (by rw [Em.lower_len]; omega)
              simp only
              omega
          · rw [hsz] at hstep hbi2
            replace hsz := Lib.hid hsz
            go_wp2_with (at_builtin; refine wpList_app_two rfl (.tmp 100) (.tmp 105) rfl pairEI rfl hA2.out.pairs rfl (by simp) rfl (by intro u hu; simp at hu; rcases hu with rfl | rfl | rfl <;> rfl) (by omega) (by omega) (by omega) ?_; intro ov7 w7 ho7 hg7 hb7 hat7)
            have hA7 := (hA2.out.push (x := (i, k, 2)) ho7 rfl hg7.out hb7 hat7.out)
            have y7 := hA7.leftAt.2 i hiL
            have z7 := hA7.leftAt.2 k hLk
            have fz1 := hA7.fz i
            have fz2 := hA7.fz k
            have gw7 := hA7.lt.2
            have hA8 := ((hA7.set i (L[i] - 2)).set k (L[k] - 2)).ext (ext_drew _)
            rw [← hwz.out, show ((L[i] - 2 : Nat) : Int) = (L[i] : Int) - 2 from by omega, show ((L[k] - 2 : Nat) : Int) = (L[k] : Int) - 2 from by omega] at hA8
            replace hA8 := Lib.hid hA8
            replace hA7 := Lib.hid hA7
            have hwr1 : IntKind.i64.wrap ((L[i] : Int) - 2) = (L[i] : Int) - 2 := by rw [IntKind.wrap_i64]; omega
            have hwr2 : IntKind.i64.wrap ((L[k] : Int) - 2) = (L[k] : Int) - 2 := by rw [IntKind.wrap_i64]; omega
            have hgt2 := hlow.out 2 (by omega)
            clear y1 y2
            go_wp2_with fail
            refine em_stores2 w7 l.length g c1 k i L[i] L[k] (by omega) hkl hlk100 hli100 y7 z7 fz1 fz2 (by omega) (by omega) (by omega) _ _ _ _ _ _ _ _ _ _ _ _ _ _ _ _ _ _ _ _ _ _ _ _ _ _ _ _ _ _ _ _ _ _ _ _ _ _ _ _ _ _ _ _ _ _ _ _ _ _ _ _ _ _ _ _ _ _ _ _ _ _ _ _ _ _ _ _ _ _ _ _ _ _ _ _ _ _ _ _ _ _ _ _ _ _ _ _ _ _ _ _ _ _ _ _ _ _ _ _ _ _ _ _ _ _ _ _ _ _ _ _ _ _ _ _ _ _ _ _ _ _ _ _ _ _ _ _ _ _ _ _ _ _ (fun _ _ _ _ _ h => hpan.out _ _ _ _ _ h) ?_
            intro v107 v108 v109 v110 v111 v112 v113 v114 v115 v116 v117 v118 v119 v120 v121 v122 v123 v124 w8 hw8
            rw [← hw8] at hA8
            clear hw8 y7 z7 fz1 fz2 gw7
            go_wp2_with fail
            refine em_wipe w0 _ l.length g c1 k i 2 L ov7 (out ++ [(i, k, 2)]) hik hkl hlen hA8.out _ _ _ _ _ _ _ _ _ _ _ _ _ _ _ _ _ _ _ _ _ _ _ _ _ _ _ _ _ _ _ _ _ _ _ _ _ _ _ _ _ _ _ _ _ _ _ _ _ _ _ _ _ _ _ _ _ _ _ _ _ _ _ _ _ _ _ _ _ _ _ _ _ _ _ _ _ _ _ _ _ _ _ _ _ _ _ _ _ _ _ _ _ _ _ _ _ _ _ _ _ _ _ _ _ _ _ _ _ _ _ _ _ _ _ _ _ _ _ _ _ _ _ _ _ _ _ _ _ _ _ _ _ _ _ ?_
            intro v127 v128 v129 v130 v131 v132 v133 v134 wz hAz
            have hmz2 := left_cell hAz.left (k := k) (by rw [Em.lower_len]; omega)
            replace hAz := Lib.hid hAz
            go_wp2_with fail
            go_roundw
            case rel => exact ⟨_, _, hAz, Lib.hid (by rw [← hfi.out, hstep.out]), hbi2⟩
            case measure =>
              rw [hmz.out, hmz2]
              have := Em.lf_at (L := Em.lower L i k 2) (i := k) (by rw [Em.lower_len]; omega)
              simp only
              omega

end Go.Proofs.YtboeaofcioolnaaDoor
